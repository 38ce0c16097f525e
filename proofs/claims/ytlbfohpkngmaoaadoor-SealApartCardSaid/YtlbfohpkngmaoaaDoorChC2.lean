import Derived.Test.YtlbfohpkngmaoaaDoorChC0
namespace Go.Proofs.YtlbfohpkngmaoaaDoor.Ch
open Go.RowKit
def le4 (x0 x1 x2 x3 : Nat) : Nat := x0 + x1 * 256 + x2 * 65536 + x3 * 16777216
theorem le4_lt (x0 x1 x2 x3 : Nat) (h0 : x0 < 256) (h1 : x1 < 256) (h2 : x2 < 256) (h3 : x3 < 256) : le4 x0 x1 x2 x3 < 4294967296 := by unfold le4; omega
theorem le4_or (x0 x1 x2 x3 : Nat) (h0 : x0 < 256) (h1 : x1 < 256) (h2 : x2 < 256) (h3 : x3 < 256) :
  bits BinOp.or IntKind.u32 (bits BinOp.or IntKind.u32 (bits BinOp.or IntKind.u32 (x0 : Int) ((x1 : Int) * 256)) ((x2 : Int) * 65536)) ((x3 : Int) * 16777216) = (le4 x0 x1 x2 x3 : Nat) := by
 have c1 : ((x1 : Int) * 256) = ((x1 * 256 : Nat) : Int) := by omega
 have c2 : ((x2 : Int) * 65536) = ((x2 * 65536 : Nat) : Int) := by omega
 have c3 : ((x3 : Int) * 16777216) = ((x3 * 16777216 : Nat) : Int) := by omega
 rw [c1, c2, c3, u32_or_nat _ _ (by omega) (by omega)]
 rw [Nat.or_comm x0, nat_join 8 _ _ (by omega) (by omega)]
 rw [u32_or_nat _ _ (by omega) (by omega)]
 rw [Nat.or_comm (x1 * 256 + x0), nat_join 16 _ _ (by omega) (by omega)]
 rw [u32_or_nat _ _ (by omega) (by omega)]
 rw [Nat.or_comm (x2 * 65536 + _), nat_join 24 _ _ (by omega) (by omega)]
 unfold le4
 omega
theorem word_any (w : World) (b o n c x0 x1 x2 x3 : Nat) (h0 : w.cell? ⟨b, o, none⟩ = some (.int .u8 (x0 : Int))) (h1 : w.cell? ⟨b, o + 1, none⟩ = some (.int .u8 (x1 : Int))) (h2 : w.cell? ⟨b, o + 2, none⟩ = some (.int .u8 (x2 : Int))) (h3 : w.cell? ⟨b, o + 3, none⟩ = some (.int .u8 (x3 : Int))) (hn : 4 ≤ n)
  (l0 : x0 < 256) (l1 : x1 < 256) (l2 : x2 < 256) (l3 : x3 < 256) :
  Calls Tryd.prog 48 #[.slice (some ⟨b, o, none⟩) n c] w fun e w' => e = .returned (.int .u32 (le4 x0 x1 x2 x3 : Nat)) ∧ ∃ m, w' = w.drewN m := by
 have n0 : (0 : Int) < (n : Int) := by omega
 have n1 : (1 : Int) < (n : Int) := by omega
 have n2 : (2 : Int) < (n : Int) := by omega
 have n3 : (3 : Int) < (n : Int) := by omega
 have k0 : (0 : Int) ≤ (x0 : Int) := by omega
 have k0' : (x0 : Int) < 256 := by omega
 have k1 : (0 : Int) ≤ (x1 : Int) := by omega
 have k1' : (x1 : Int) < 256 := by omega
 have k2 : (0 : Int) ≤ (x2 : Int) := by omega
 have k2' : (x2 : Int) < 256 := by omega
 have k3 : (0 : Int) ≤ (x3 : Int) := by omega
 have k3' : (x3 : Int) < 256 := by omega
 go_enter Tryd.func48, Tryd.ntmps48
 go_wp2
 go_quiet (fail)
 go_wp2
 go_ret
 exact ⟨ret_u32 (le4_or x0 x1 x2 x3 l0 l1 l2 l3), _, rfl⟩
theorem rword_any (w : World) (b o n c x0 x1 x2 x3 : Nat) (h0 : w.cell? ⟨b, o, none⟩ = some (.int .u8 (x0 : Int))) (h1 : w.cell? ⟨b, o + 1, none⟩ = some (.int .u8 (x1 : Int))) (h2 : w.cell? ⟨b, o + 2, none⟩ = some (.int .u8 (x2 : Int))) (h3 : w.cell? ⟨b, o + 3, none⟩ = some (.int .u8 (x3 : Int))) (hn : 4 ≤ n)
  (l0 : x0 < 256) (l1 : x1 < 256) (l2 : x2 < 256) (l3 : x3 < 256) :
  Calls Tryd.prog 42 #[.slice (some ⟨b, o, none⟩) n c] w fun e w' => e = .returned (.int .u32 (le4 x0 x1 x2 x3 : Nat)) ∧ ∃ m, w' = w.drewN m := by
 have n0 : (0 : Int) < (n : Int) := by omega
 have n1 : (1 : Int) < (n : Int) := by omega
 have n2 : (2 : Int) < (n : Int) := by omega
 have n3 : (3 : Int) < (n : Int) := by omega
 have k0 : (0 : Int) ≤ (x0 : Int) := by omega
 have k0' : (x0 : Int) < 256 := by omega
 have k1 : (0 : Int) ≤ (x1 : Int) := by omega
 have k1' : (x1 : Int) < 256 := by omega
 have k2 : (0 : Int) ≤ (x2 : Int) := by omega
 have k2' : (x2 : Int) < 256 := by omega
 have k3 : (0 : Int) ≤ (x3 : Int) := by omega
 have k3' : (x3 : Int) < 256 := by omega
 go_enter Tryd.func42, Tryd.ntmps42
 go_wp2
 go_quiet (fail)
 go_wp2
 go_ret
 exact ⟨ret_u32 (by unfold le4; omega), _, rfl⟩
theorem rl_zero (x : Nat) (h : x < 4294967296) : rl 0 x = x := by unfold rl; omega
theorem rl_succ0 (x : Nat) (h : x < 4294967296) : rl 1 x = (rl 0 x * 2 % 4294967296 + rl 0 x / 2147483648) % 4294967296 ∧ rl 0 x < 4294967296 := by
 obtain ⟨u, t, l, rfl, ht, hl⟩ : ∃ u t l, x = 4294967296 * u + 2147483648 * t + l ∧ t < 2 ∧ l < 2147483648 := ⟨x / 4294967296, x / 2147483648 % 2, x % 2147483648, by omega, by omega, by omega⟩
 have hu : u < 1 := by omega
 have e1 : rl 0 (4294967296 * u + 2147483648 * t + l) = 2147483648 * t + 1 * l + u := by
  show (4294967296 * u + 2147483648 * t + l) * 1 % 4294967296 + (4294967296 * u + 2147483648 * t + l) / 4294967296 = _
  have a1 : (4294967296 * u + 2147483648 * t + l) * 1 % 4294967296 = 2147483648 * t + 1 * l := by omega
  have a2 : (4294967296 * u + 2147483648 * t + l) / 4294967296 = u := by omega
  omega
 have e2 : rl 1 (4294967296 * u + 2147483648 * t + l) = 2 * l + 2 * u + t := by
  show (4294967296 * u + 2147483648 * t + l) * 2 % 4294967296 + (4294967296 * u + 2147483648 * t + l) / 2147483648 = _
  have a1 : (4294967296 * u + 2147483648 * t + l) * 2 % 4294967296 = 2 * l := by omega
  have a2 : (4294967296 * u + 2147483648 * t + l) / 2147483648 = 2 * u + t := by omega
  omega
 rw [e1, e2]
 refine ⟨?_, by omega⟩
 have a3 : (2147483648 * t + 1 * l + u) * 2 % 4294967296 = 2 * l + 2 * u := by omega
 have a4 : (2147483648 * t + 1 * l + u) / 2147483648 = t := by omega
 omega
theorem rl_succ1 (x : Nat) (h : x < 4294967296) : rl 2 x = (rl 1 x * 2 % 4294967296 + rl 1 x / 2147483648) % 4294967296 ∧ rl 1 x < 4294967296 := by
 obtain ⟨u, t, l, rfl, ht, hl⟩ : ∃ u t l, x = 2147483648 * u + 1073741824 * t + l ∧ t < 2 ∧ l < 1073741824 := ⟨x / 2147483648, x / 1073741824 % 2, x % 1073741824, by omega, by omega, by omega⟩
 have hu : u < 2 := by omega
 have e1 : rl 1 (2147483648 * u + 1073741824 * t + l) = 2147483648 * t + 2 * l + u := by
  show (2147483648 * u + 1073741824 * t + l) * 2 % 4294967296 + (2147483648 * u + 1073741824 * t + l) / 2147483648 = _
  have a1 : (2147483648 * u + 1073741824 * t + l) * 2 % 4294967296 = 2147483648 * t + 2 * l := by omega
  have a2 : (2147483648 * u + 1073741824 * t + l) / 2147483648 = u := by omega
  omega
 have e2 : rl 2 (2147483648 * u + 1073741824 * t + l) = 4 * l + 2 * u + t := by
  show (2147483648 * u + 1073741824 * t + l) * 4 % 4294967296 + (2147483648 * u + 1073741824 * t + l) / 1073741824 = _
  have a1 : (2147483648 * u + 1073741824 * t + l) * 4 % 4294967296 = 4 * l := by omega
  have a2 : (2147483648 * u + 1073741824 * t + l) / 1073741824 = 2 * u + t := by omega
  omega
 rw [e1, e2]
 refine ⟨?_, by omega⟩
 have a3 : (2147483648 * t + 2 * l + u) * 2 % 4294967296 = 4 * l + 2 * u := by omega
 have a4 : (2147483648 * t + 2 * l + u) / 2147483648 = t := by omega
 omega
theorem rl_succ2 (x : Nat) (h : x < 4294967296) : rl 3 x = (rl 2 x * 2 % 4294967296 + rl 2 x / 2147483648) % 4294967296 ∧ rl 2 x < 4294967296 := by
 obtain ⟨u, t, l, rfl, ht, hl⟩ : ∃ u t l, x = 1073741824 * u + 536870912 * t + l ∧ t < 2 ∧ l < 536870912 := ⟨x / 1073741824, x / 536870912 % 2, x % 536870912, by omega, by omega, by omega⟩
 have hu : u < 4 := by omega
 have e1 : rl 2 (1073741824 * u + 536870912 * t + l) = 2147483648 * t + 4 * l + u := by
  show (1073741824 * u + 536870912 * t + l) * 4 % 4294967296 + (1073741824 * u + 536870912 * t + l) / 1073741824 = _
  have a1 : (1073741824 * u + 536870912 * t + l) * 4 % 4294967296 = 2147483648 * t + 4 * l := by omega
  have a2 : (1073741824 * u + 536870912 * t + l) / 1073741824 = u := by omega
  omega
 have e2 : rl 3 (1073741824 * u + 536870912 * t + l) = 8 * l + 2 * u + t := by
  show (1073741824 * u + 536870912 * t + l) * 8 % 4294967296 + (1073741824 * u + 536870912 * t + l) / 536870912 = _
  have a1 : (1073741824 * u + 536870912 * t + l) * 8 % 4294967296 = 8 * l := by omega
  have a2 : (1073741824 * u + 536870912 * t + l) / 536870912 = 2 * u + t := by omega
  omega
 rw [e1, e2]
 refine ⟨?_, by omega⟩
 have a3 : (2147483648 * t + 4 * l + u) * 2 % 4294967296 = 8 * l + 2 * u := by omega
 have a4 : (2147483648 * t + 4 * l + u) / 2147483648 = t := by omega
 omega
theorem rl_succ3 (x : Nat) (h : x < 4294967296) : rl 4 x = (rl 3 x * 2 % 4294967296 + rl 3 x / 2147483648) % 4294967296 ∧ rl 3 x < 4294967296 := by
 obtain ⟨u, t, l, rfl, ht, hl⟩ : ∃ u t l, x = 536870912 * u + 268435456 * t + l ∧ t < 2 ∧ l < 268435456 := ⟨x / 536870912, x / 268435456 % 2, x % 268435456, by omega, by omega, by omega⟩
 have hu : u < 8 := by omega
 have e1 : rl 3 (536870912 * u + 268435456 * t + l) = 2147483648 * t + 8 * l + u := by
  show (536870912 * u + 268435456 * t + l) * 8 % 4294967296 + (536870912 * u + 268435456 * t + l) / 536870912 = _
  have a1 : (536870912 * u + 268435456 * t + l) * 8 % 4294967296 = 2147483648 * t + 8 * l := by omega
  have a2 : (536870912 * u + 268435456 * t + l) / 536870912 = u := by omega
  omega
 have e2 : rl 4 (536870912 * u + 268435456 * t + l) = 16 * l + 2 * u + t := by
  show (536870912 * u + 268435456 * t + l) * 16 % 4294967296 + (536870912 * u + 268435456 * t + l) / 268435456 = _
  have a1 : (536870912 * u + 268435456 * t + l) * 16 % 4294967296 = 16 * l := by omega
  have a2 : (536870912 * u + 268435456 * t + l) / 268435456 = 2 * u + t := by omega
  omega
 rw [e1, e2]
 refine ⟨?_, by omega⟩
 have a3 : (2147483648 * t + 8 * l + u) * 2 % 4294967296 = 16 * l + 2 * u := by omega
 have a4 : (2147483648 * t + 8 * l + u) / 2147483648 = t := by omega
 omega
theorem rl_succ4 (x : Nat) (h : x < 4294967296) : rl 5 x = (rl 4 x * 2 % 4294967296 + rl 4 x / 2147483648) % 4294967296 ∧ rl 4 x < 4294967296 := by
 obtain ⟨u, t, l, rfl, ht, hl⟩ : ∃ u t l, x = 268435456 * u + 134217728 * t + l ∧ t < 2 ∧ l < 134217728 := ⟨x / 268435456, x / 134217728 % 2, x % 134217728, by omega, by omega, by omega⟩
 have hu : u < 16 := by omega
 have e1 : rl 4 (268435456 * u + 134217728 * t + l) = 2147483648 * t + 16 * l + u := by
  show (268435456 * u + 134217728 * t + l) * 16 % 4294967296 + (268435456 * u + 134217728 * t + l) / 268435456 = _
  have a1 : (268435456 * u + 134217728 * t + l) * 16 % 4294967296 = 2147483648 * t + 16 * l := by omega
  have a2 : (268435456 * u + 134217728 * t + l) / 268435456 = u := by omega
  omega
 have e2 : rl 5 (268435456 * u + 134217728 * t + l) = 32 * l + 2 * u + t := by
  show (268435456 * u + 134217728 * t + l) * 32 % 4294967296 + (268435456 * u + 134217728 * t + l) / 134217728 = _
  have a1 : (268435456 * u + 134217728 * t + l) * 32 % 4294967296 = 32 * l := by omega
  have a2 : (268435456 * u + 134217728 * t + l) / 134217728 = 2 * u + t := by omega
  omega
 rw [e1, e2]
 refine ⟨?_, by omega⟩
 have a3 : (2147483648 * t + 16 * l + u) * 2 % 4294967296 = 32 * l + 2 * u := by omega
 have a4 : (2147483648 * t + 16 * l + u) / 2147483648 = t := by omega
 omega
theorem rl_succ5 (x : Nat) (h : x < 4294967296) : rl 6 x = (rl 5 x * 2 % 4294967296 + rl 5 x / 2147483648) % 4294967296 ∧ rl 5 x < 4294967296 := by
 obtain ⟨u, t, l, rfl, ht, hl⟩ : ∃ u t l, x = 134217728 * u + 67108864 * t + l ∧ t < 2 ∧ l < 67108864 := ⟨x / 134217728, x / 67108864 % 2, x % 67108864, by omega, by omega, by omega⟩
 have hu : u < 32 := by omega
 have e1 : rl 5 (134217728 * u + 67108864 * t + l) = 2147483648 * t + 32 * l + u := by
  show (134217728 * u + 67108864 * t + l) * 32 % 4294967296 + (134217728 * u + 67108864 * t + l) / 134217728 = _
  have a1 : (134217728 * u + 67108864 * t + l) * 32 % 4294967296 = 2147483648 * t + 32 * l := by omega
  have a2 : (134217728 * u + 67108864 * t + l) / 134217728 = u := by omega
  omega
 have e2 : rl 6 (134217728 * u + 67108864 * t + l) = 64 * l + 2 * u + t := by
  show (134217728 * u + 67108864 * t + l) * 64 % 4294967296 + (134217728 * u + 67108864 * t + l) / 67108864 = _
  have a1 : (134217728 * u + 67108864 * t + l) * 64 % 4294967296 = 64 * l := by omega
  have a2 : (134217728 * u + 67108864 * t + l) / 67108864 = 2 * u + t := by omega
  omega
 rw [e1, e2]
 refine ⟨?_, by omega⟩
 have a3 : (2147483648 * t + 32 * l + u) * 2 % 4294967296 = 64 * l + 2 * u := by omega
 have a4 : (2147483648 * t + 32 * l + u) / 2147483648 = t := by omega
 omega
theorem rl_succ6 (x : Nat) (h : x < 4294967296) : rl 7 x = (rl 6 x * 2 % 4294967296 + rl 6 x / 2147483648) % 4294967296 ∧ rl 6 x < 4294967296 := by
 obtain ⟨u, t, l, rfl, ht, hl⟩ : ∃ u t l, x = 67108864 * u + 33554432 * t + l ∧ t < 2 ∧ l < 33554432 := ⟨x / 67108864, x / 33554432 % 2, x % 33554432, by omega, by omega, by omega⟩
 have hu : u < 64 := by omega
 have e1 : rl 6 (67108864 * u + 33554432 * t + l) = 2147483648 * t + 64 * l + u := by
  show (67108864 * u + 33554432 * t + l) * 64 % 4294967296 + (67108864 * u + 33554432 * t + l) / 67108864 = _
  have a1 : (67108864 * u + 33554432 * t + l) * 64 % 4294967296 = 2147483648 * t + 64 * l := by omega
  have a2 : (67108864 * u + 33554432 * t + l) / 67108864 = u := by omega
  omega
 have e2 : rl 7 (67108864 * u + 33554432 * t + l) = 128 * l + 2 * u + t := by
  show (67108864 * u + 33554432 * t + l) * 128 % 4294967296 + (67108864 * u + 33554432 * t + l) / 33554432 = _
  have a1 : (67108864 * u + 33554432 * t + l) * 128 % 4294967296 = 128 * l := by omega
  have a2 : (67108864 * u + 33554432 * t + l) / 33554432 = 2 * u + t := by omega
  omega
 rw [e1, e2]
 refine ⟨?_, by omega⟩
 have a3 : (2147483648 * t + 64 * l + u) * 2 % 4294967296 = 128 * l + 2 * u := by omega
 have a4 : (2147483648 * t + 64 * l + u) / 2147483648 = t := by omega
 omega
theorem rl_succ7 (x : Nat) (h : x < 4294967296) : rl 8 x = (rl 7 x * 2 % 4294967296 + rl 7 x / 2147483648) % 4294967296 ∧ rl 7 x < 4294967296 := by
 obtain ⟨u, t, l, rfl, ht, hl⟩ : ∃ u t l, x = 33554432 * u + 16777216 * t + l ∧ t < 2 ∧ l < 16777216 := ⟨x / 33554432, x / 16777216 % 2, x % 16777216, by omega, by omega, by omega⟩
 have hu : u < 128 := by omega
 have e1 : rl 7 (33554432 * u + 16777216 * t + l) = 2147483648 * t + 128 * l + u := by
  show (33554432 * u + 16777216 * t + l) * 128 % 4294967296 + (33554432 * u + 16777216 * t + l) / 33554432 = _
  have a1 : (33554432 * u + 16777216 * t + l) * 128 % 4294967296 = 2147483648 * t + 128 * l := by omega
  have a2 : (33554432 * u + 16777216 * t + l) / 33554432 = u := by omega
  omega
 have e2 : rl 8 (33554432 * u + 16777216 * t + l) = 256 * l + 2 * u + t := by
  show (33554432 * u + 16777216 * t + l) * 256 % 4294967296 + (33554432 * u + 16777216 * t + l) / 16777216 = _
  have a1 : (33554432 * u + 16777216 * t + l) * 256 % 4294967296 = 256 * l := by omega
  have a2 : (33554432 * u + 16777216 * t + l) / 16777216 = 2 * u + t := by omega
  omega
 rw [e1, e2]
 refine ⟨?_, by omega⟩
 have a3 : (2147483648 * t + 128 * l + u) * 2 % 4294967296 = 256 * l + 2 * u := by omega
 have a4 : (2147483648 * t + 128 * l + u) / 2147483648 = t := by omega
 omega
theorem rl_succ8 (x : Nat) (h : x < 4294967296) : rl 9 x = (rl 8 x * 2 % 4294967296 + rl 8 x / 2147483648) % 4294967296 ∧ rl 8 x < 4294967296 := by
 obtain ⟨u, t, l, rfl, ht, hl⟩ : ∃ u t l, x = 16777216 * u + 8388608 * t + l ∧ t < 2 ∧ l < 8388608 := ⟨x / 16777216, x / 8388608 % 2, x % 8388608, by omega, by omega, by omega⟩
 have hu : u < 256 := by omega
 have e1 : rl 8 (16777216 * u + 8388608 * t + l) = 2147483648 * t + 256 * l + u := by
  show (16777216 * u + 8388608 * t + l) * 256 % 4294967296 + (16777216 * u + 8388608 * t + l) / 16777216 = _
  have a1 : (16777216 * u + 8388608 * t + l) * 256 % 4294967296 = 2147483648 * t + 256 * l := by omega
  have a2 : (16777216 * u + 8388608 * t + l) / 16777216 = u := by omega
  omega
 have e2 : rl 9 (16777216 * u + 8388608 * t + l) = 512 * l + 2 * u + t := by
  show (16777216 * u + 8388608 * t + l) * 512 % 4294967296 + (16777216 * u + 8388608 * t + l) / 8388608 = _
  have a1 : (16777216 * u + 8388608 * t + l) * 512 % 4294967296 = 512 * l := by omega
  have a2 : (16777216 * u + 8388608 * t + l) / 8388608 = 2 * u + t := by omega
  omega
 rw [e1, e2]
 refine ⟨?_, by omega⟩
 have a3 : (2147483648 * t + 256 * l + u) * 2 % 4294967296 = 512 * l + 2 * u := by omega
 have a4 : (2147483648 * t + 256 * l + u) / 2147483648 = t := by omega
 omega
theorem rl_succ9 (x : Nat) (h : x < 4294967296) : rl 10 x = (rl 9 x * 2 % 4294967296 + rl 9 x / 2147483648) % 4294967296 ∧ rl 9 x < 4294967296 := by
 obtain ⟨u, t, l, rfl, ht, hl⟩ : ∃ u t l, x = 8388608 * u + 4194304 * t + l ∧ t < 2 ∧ l < 4194304 := ⟨x / 8388608, x / 4194304 % 2, x % 4194304, by omega, by omega, by omega⟩
 have hu : u < 512 := by omega
 have e1 : rl 9 (8388608 * u + 4194304 * t + l) = 2147483648 * t + 512 * l + u := by
  show (8388608 * u + 4194304 * t + l) * 512 % 4294967296 + (8388608 * u + 4194304 * t + l) / 8388608 = _
  have a1 : (8388608 * u + 4194304 * t + l) * 512 % 4294967296 = 2147483648 * t + 512 * l := by omega
  have a2 : (8388608 * u + 4194304 * t + l) / 8388608 = u := by omega
  omega
 have e2 : rl 10 (8388608 * u + 4194304 * t + l) = 1024 * l + 2 * u + t := by
  show (8388608 * u + 4194304 * t + l) * 1024 % 4294967296 + (8388608 * u + 4194304 * t + l) / 4194304 = _
  have a1 : (8388608 * u + 4194304 * t + l) * 1024 % 4294967296 = 1024 * l := by omega
  have a2 : (8388608 * u + 4194304 * t + l) / 4194304 = 2 * u + t := by omega
  omega
 rw [e1, e2]
 refine ⟨?_, by omega⟩
 have a3 : (2147483648 * t + 512 * l + u) * 2 % 4294967296 = 1024 * l + 2 * u := by omega
 have a4 : (2147483648 * t + 512 * l + u) / 2147483648 = t := by omega
 omega
theorem rl_succ10 (x : Nat) (h : x < 4294967296) : rl 11 x = (rl 10 x * 2 % 4294967296 + rl 10 x / 2147483648) % 4294967296 ∧ rl 10 x < 4294967296 := by
 obtain ⟨u, t, l, rfl, ht, hl⟩ : ∃ u t l, x = 4194304 * u + 2097152 * t + l ∧ t < 2 ∧ l < 2097152 := ⟨x / 4194304, x / 2097152 % 2, x % 2097152, by omega, by omega, by omega⟩
 have hu : u < 1024 := by omega
 have e1 : rl 10 (4194304 * u + 2097152 * t + l) = 2147483648 * t + 1024 * l + u := by
  show (4194304 * u + 2097152 * t + l) * 1024 % 4294967296 + (4194304 * u + 2097152 * t + l) / 4194304 = _
  have a1 : (4194304 * u + 2097152 * t + l) * 1024 % 4294967296 = 2147483648 * t + 1024 * l := by omega
  have a2 : (4194304 * u + 2097152 * t + l) / 4194304 = u := by omega
  omega
 have e2 : rl 11 (4194304 * u + 2097152 * t + l) = 2048 * l + 2 * u + t := by
  show (4194304 * u + 2097152 * t + l) * 2048 % 4294967296 + (4194304 * u + 2097152 * t + l) / 2097152 = _
  have a1 : (4194304 * u + 2097152 * t + l) * 2048 % 4294967296 = 2048 * l := by omega
  have a2 : (4194304 * u + 2097152 * t + l) / 2097152 = 2 * u + t := by omega
  omega
 rw [e1, e2]
 refine ⟨?_, by omega⟩
 have a3 : (2147483648 * t + 1024 * l + u) * 2 % 4294967296 = 2048 * l + 2 * u := by omega
 have a4 : (2147483648 * t + 1024 * l + u) / 2147483648 = t := by omega
 omega
theorem rl_succ11 (x : Nat) (h : x < 4294967296) : rl 12 x = (rl 11 x * 2 % 4294967296 + rl 11 x / 2147483648) % 4294967296 ∧ rl 11 x < 4294967296 := by
 obtain ⟨u, t, l, rfl, ht, hl⟩ : ∃ u t l, x = 2097152 * u + 1048576 * t + l ∧ t < 2 ∧ l < 1048576 := ⟨x / 2097152, x / 1048576 % 2, x % 1048576, by omega, by omega, by omega⟩
 have hu : u < 2048 := by omega
 have e1 : rl 11 (2097152 * u + 1048576 * t + l) = 2147483648 * t + 2048 * l + u := by
  show (2097152 * u + 1048576 * t + l) * 2048 % 4294967296 + (2097152 * u + 1048576 * t + l) / 2097152 = _
  have a1 : (2097152 * u + 1048576 * t + l) * 2048 % 4294967296 = 2147483648 * t + 2048 * l := by omega
  have a2 : (2097152 * u + 1048576 * t + l) / 2097152 = u := by omega
  omega
 have e2 : rl 12 (2097152 * u + 1048576 * t + l) = 4096 * l + 2 * u + t := by
  show (2097152 * u + 1048576 * t + l) * 4096 % 4294967296 + (2097152 * u + 1048576 * t + l) / 1048576 = _
  have a1 : (2097152 * u + 1048576 * t + l) * 4096 % 4294967296 = 4096 * l := by omega
  have a2 : (2097152 * u + 1048576 * t + l) / 1048576 = 2 * u + t := by omega
  omega
 rw [e1, e2]
 refine ⟨?_, by omega⟩
 have a3 : (2147483648 * t + 2048 * l + u) * 2 % 4294967296 = 4096 * l + 2 * u := by omega
 have a4 : (2147483648 * t + 2048 * l + u) / 2147483648 = t := by omega
 omega
theorem rl_succ12 (x : Nat) (h : x < 4294967296) : rl 13 x = (rl 12 x * 2 % 4294967296 + rl 12 x / 2147483648) % 4294967296 ∧ rl 12 x < 4294967296 := by
 obtain ⟨u, t, l, rfl, ht, hl⟩ : ∃ u t l, x = 1048576 * u + 524288 * t + l ∧ t < 2 ∧ l < 524288 := ⟨x / 1048576, x / 524288 % 2, x % 524288, by omega, by omega, by omega⟩
 have hu : u < 4096 := by omega
 have e1 : rl 12 (1048576 * u + 524288 * t + l) = 2147483648 * t + 4096 * l + u := by
  show (1048576 * u + 524288 * t + l) * 4096 % 4294967296 + (1048576 * u + 524288 * t + l) / 1048576 = _
  have a1 : (1048576 * u + 524288 * t + l) * 4096 % 4294967296 = 2147483648 * t + 4096 * l := by omega
  have a2 : (1048576 * u + 524288 * t + l) / 1048576 = u := by omega
  omega
 have e2 : rl 13 (1048576 * u + 524288 * t + l) = 8192 * l + 2 * u + t := by
  show (1048576 * u + 524288 * t + l) * 8192 % 4294967296 + (1048576 * u + 524288 * t + l) / 524288 = _
  have a1 : (1048576 * u + 524288 * t + l) * 8192 % 4294967296 = 8192 * l := by omega
  have a2 : (1048576 * u + 524288 * t + l) / 524288 = 2 * u + t := by omega
  omega
 rw [e1, e2]
 refine ⟨?_, by omega⟩
 have a3 : (2147483648 * t + 4096 * l + u) * 2 % 4294967296 = 8192 * l + 2 * u := by omega
 have a4 : (2147483648 * t + 4096 * l + u) / 2147483648 = t := by omega
 omega
theorem rl_succ13 (x : Nat) (h : x < 4294967296) : rl 14 x = (rl 13 x * 2 % 4294967296 + rl 13 x / 2147483648) % 4294967296 ∧ rl 13 x < 4294967296 := by
 obtain ⟨u, t, l, rfl, ht, hl⟩ : ∃ u t l, x = 524288 * u + 262144 * t + l ∧ t < 2 ∧ l < 262144 := ⟨x / 524288, x / 262144 % 2, x % 262144, by omega, by omega, by omega⟩
 have hu : u < 8192 := by omega
 have e1 : rl 13 (524288 * u + 262144 * t + l) = 2147483648 * t + 8192 * l + u := by
  show (524288 * u + 262144 * t + l) * 8192 % 4294967296 + (524288 * u + 262144 * t + l) / 524288 = _
  have a1 : (524288 * u + 262144 * t + l) * 8192 % 4294967296 = 2147483648 * t + 8192 * l := by omega
  have a2 : (524288 * u + 262144 * t + l) / 524288 = u := by omega
  omega
 have e2 : rl 14 (524288 * u + 262144 * t + l) = 16384 * l + 2 * u + t := by
  show (524288 * u + 262144 * t + l) * 16384 % 4294967296 + (524288 * u + 262144 * t + l) / 262144 = _
  have a1 : (524288 * u + 262144 * t + l) * 16384 % 4294967296 = 16384 * l := by omega
  have a2 : (524288 * u + 262144 * t + l) / 262144 = 2 * u + t := by omega
  omega
 rw [e1, e2]
 refine ⟨?_, by omega⟩
 have a3 : (2147483648 * t + 8192 * l + u) * 2 % 4294967296 = 16384 * l + 2 * u := by omega
 have a4 : (2147483648 * t + 8192 * l + u) / 2147483648 = t := by omega
 omega
theorem rl_succ14 (x : Nat) (h : x < 4294967296) : rl 15 x = (rl 14 x * 2 % 4294967296 + rl 14 x / 2147483648) % 4294967296 ∧ rl 14 x < 4294967296 := by
 obtain ⟨u, t, l, rfl, ht, hl⟩ : ∃ u t l, x = 262144 * u + 131072 * t + l ∧ t < 2 ∧ l < 131072 := ⟨x / 262144, x / 131072 % 2, x % 131072, by omega, by omega, by omega⟩
 have hu : u < 16384 := by omega
 have e1 : rl 14 (262144 * u + 131072 * t + l) = 2147483648 * t + 16384 * l + u := by
  show (262144 * u + 131072 * t + l) * 16384 % 4294967296 + (262144 * u + 131072 * t + l) / 262144 = _
  have a1 : (262144 * u + 131072 * t + l) * 16384 % 4294967296 = 2147483648 * t + 16384 * l := by omega
  have a2 : (262144 * u + 131072 * t + l) / 262144 = u := by omega
  omega
 have e2 : rl 15 (262144 * u + 131072 * t + l) = 32768 * l + 2 * u + t := by
  show (262144 * u + 131072 * t + l) * 32768 % 4294967296 + (262144 * u + 131072 * t + l) / 131072 = _
  have a1 : (262144 * u + 131072 * t + l) * 32768 % 4294967296 = 32768 * l := by omega
  have a2 : (262144 * u + 131072 * t + l) / 131072 = 2 * u + t := by omega
  omega
 rw [e1, e2]
 refine ⟨?_, by omega⟩
 have a3 : (2147483648 * t + 16384 * l + u) * 2 % 4294967296 = 32768 * l + 2 * u := by omega
 have a4 : (2147483648 * t + 16384 * l + u) / 2147483648 = t := by omega
 omega
theorem rl_succ15 (x : Nat) (h : x < 4294967296) : rl 16 x = (rl 15 x * 2 % 4294967296 + rl 15 x / 2147483648) % 4294967296 ∧ rl 15 x < 4294967296 := by
 obtain ⟨u, t, l, rfl, ht, hl⟩ : ∃ u t l, x = 131072 * u + 65536 * t + l ∧ t < 2 ∧ l < 65536 := ⟨x / 131072, x / 65536 % 2, x % 65536, by omega, by omega, by omega⟩
 have hu : u < 32768 := by omega
 have e1 : rl 15 (131072 * u + 65536 * t + l) = 2147483648 * t + 32768 * l + u := by
  show (131072 * u + 65536 * t + l) * 32768 % 4294967296 + (131072 * u + 65536 * t + l) / 131072 = _
  have a1 : (131072 * u + 65536 * t + l) * 32768 % 4294967296 = 2147483648 * t + 32768 * l := by omega
  have a2 : (131072 * u + 65536 * t + l) / 131072 = u := by omega
  omega
 have e2 : rl 16 (131072 * u + 65536 * t + l) = 65536 * l + 2 * u + t := by
  show (131072 * u + 65536 * t + l) * 65536 % 4294967296 + (131072 * u + 65536 * t + l) / 65536 = _
  have a1 : (131072 * u + 65536 * t + l) * 65536 % 4294967296 = 65536 * l := by omega
  have a2 : (131072 * u + 65536 * t + l) / 65536 = 2 * u + t := by omega
  omega
 rw [e1, e2]
 refine ⟨?_, by omega⟩
 have a3 : (2147483648 * t + 32768 * l + u) * 2 % 4294967296 = 65536 * l + 2 * u := by omega
 have a4 : (2147483648 * t + 32768 * l + u) / 2147483648 = t := by omega
 omega
theorem rl_succ (k x : Nat) (hk : k < 16) (h : x < 4294967296) : rl (k + 1) x = (rl k x * 2 % 4294967296 + rl k x / 2147483648) % 4294967296 ∧ rl k x < 4294967296 := by
 match k, hk with
 | 0, _ => exact rl_succ0 x h
 | 1, _ => exact rl_succ1 x h
 | 2, _ => exact rl_succ2 x h
 | 3, _ => exact rl_succ3 x h
 | 4, _ => exact rl_succ4 x h
 | 5, _ => exact rl_succ5 x h
 | 6, _ => exact rl_succ6 x h
 | 7, _ => exact rl_succ7 x h
 | 8, _ => exact rl_succ8 x h
 | 9, _ => exact rl_succ9 x h
 | 10, _ => exact rl_succ10 x h
 | 11, _ => exact rl_succ11 x h
 | 12, _ => exact rl_succ12 x h
 | 13, _ => exact rl_succ13 x h
 | 14, _ => exact rl_succ14 x h
 | 15, _ => exact rl_succ15 x h
 | j + 16, hj => exact absurd hj (by omega)
theorem left_any (x k : Nat) (h1 : x < 4294967296) (hk : k ≤ 16) (w : World) :
  Calls Tryd.prog 53 #[.int .u32 (x : Int), .int .i64 (k : Int)] w fun e w' => e = .returned (.int .u32 (rl k x : Nat)) ∧ w = w' := by
 go_enter Tryd.func53, Tryd.ntmps53
 go_wp2
 go_loop [0, 5] (fun v i => ∃ j : Nat, j ≤ k ∧ i = .int .i64 (j : Int) ∧ v = .int .u32 (rl j x : Nat)) (fun _ i => k - (intOf i).toNat)
 case atStart => exact ⟨0, by omega, rfl, by rw [rl_zero x h1]⟩
 case round =>
  obtain ⟨j, hj, rfl, rfl⟩ := hrel
  by_cases hlt : j < k
  ·obtain ⟨e1, e2⟩ := rl_succ j x (by omega) h1
   have E1 := Lib.hid e1
   clear e1
   have p0 : (0 : Int) ≤ (rl j x : Int) := by omega
   have p1 : (rl j x : Int) < 4294967296 := by omega
   go_wp2
   go_round
   case rel => exact ⟨j + 1, by omega, by go_num, by rw [E1.out]; go_num⟩
   case measure => simp [intOf]; omega
  ·obtain rfl : j = k := by omega
   go_wp2
   go_ret
   exact ⟨rfl, rfl⟩
end Go.Proofs.YtlbfohpkngmaoaaDoor.Ch
