import Derived.Test.YtlbfohpkngmaoaaDoorRows
import Derived.WalkKit
import Derived.WalkLawsBesides
import Derived.Deep.QuietTactic
import Derived.BigQuiet
import Derived.RegionTactic
import Derived.Deep.RegionHeld3
import Derived.Deep.RegionWith
import Derived.StillTailTactics
import Derived.Laws.BitsAllLaws
import Derived.Deep.DeepCutAuto
import Derived.Outline
import Derived.Lib.Hide
namespace Go.Proofs.YtlbfohpkngmaoaaDoor.Ch
open Go.RowKit
def rl (k x : Nat) : Nat := x * 2 ^ k % 4294967296 + x / 2 ^ (32 - k)
theorem ret_u32 {a b : Int} (h : a = b) : Ending.returned (.int .u32 a) = .returned (.int .u32 b) := by rw [h]
theorem rl_7 (x : Nat) : rl 7 x = x * 128 % 4294967296 + x / 33554432 := rfl
theorem rl_7_lt (x : Nat) (hx : x < 4294967296) : rl 7 x < 4294967296 := by rw [rl_7]; omega
theorem or_7 (x : Nat) (h1 : x < 4294967296) : bits BinOp.or IntKind.u32 ((x : Int) * 128 % 4294967296) ((x : Int) / 33554432) = ((rl 7 x : Nat) : Int) := by
 have e1 : ((x : Int) * 128 % 4294967296) = ((x * 128 % 4294967296 : Nat) : Int) := by omega
 have e2 : ((x : Int) / 33554432) = ((x / 33554432 : Nat) : Int) := by omega
 rw [e1, e2, u32_or_nat _ _ (by omega) (by omega), nat_join 7 _ _ (by omega) (by omega)]
 rfl
theorem rot7 (x : Nat) (h1 : x < 4294967296) (w : World) :
  Calls Tryd.prog 49 #[.int .u32 (x : Int), .int .i64 7] w fun e w' => e = .returned (.int .u32 (rl 7 x : Nat)) ∧ w = w' := by
 have e1 : bits BinOp.and IntKind.u64 7 31 = 7 := by decide +kernel
 have l0 : (0 : Int) ≤ (x : Int) := by omega
 have l1 : (x : Int) < 4294967296 := by omega
 go_enter Tryd.func49, Tryd.ntmps49
 go_wp2
 go_ret
 exact ⟨ret_u32 (or_7 x h1), rfl⟩
theorem rl_8 (x : Nat) : rl 8 x = x * 256 % 4294967296 + x / 16777216 := rfl
theorem rl_8_lt (x : Nat) (hx : x < 4294967296) : rl 8 x < 4294967296 := by rw [rl_8]; omega
theorem or_8 (x : Nat) (h1 : x < 4294967296) : bits BinOp.or IntKind.u32 ((x : Int) * 256 % 4294967296) ((x : Int) / 16777216) = ((rl 8 x : Nat) : Int) := by
 have e1 : ((x : Int) * 256 % 4294967296) = ((x * 256 % 4294967296 : Nat) : Int) := by omega
 have e2 : ((x : Int) / 16777216) = ((x / 16777216 : Nat) : Int) := by omega
 rw [e1, e2, u32_or_nat _ _ (by omega) (by omega), nat_join 8 _ _ (by omega) (by omega)]
 rfl
theorem rot8 (x : Nat) (h1 : x < 4294967296) (w : World) :
  Calls Tryd.prog 49 #[.int .u32 (x : Int), .int .i64 8] w fun e w' => e = .returned (.int .u32 (rl 8 x : Nat)) ∧ w = w' := by
 have e1 : bits BinOp.and IntKind.u64 8 31 = 8 := by decide +kernel
 have l0 : (0 : Int) ≤ (x : Int) := by omega
 have l1 : (x : Int) < 4294967296 := by omega
 go_enter Tryd.func49, Tryd.ntmps49
 go_wp2
 go_ret
 exact ⟨ret_u32 (or_8 x h1), rfl⟩
theorem rl_12 (x : Nat) : rl 12 x = x * 4096 % 4294967296 + x / 1048576 := rfl
theorem rl_12_lt (x : Nat) (hx : x < 4294967296) : rl 12 x < 4294967296 := by rw [rl_12]; omega
theorem or_12 (x : Nat) (h1 : x < 4294967296) : bits BinOp.or IntKind.u32 ((x : Int) * 4096 % 4294967296) ((x : Int) / 1048576) = ((rl 12 x : Nat) : Int) := by
 have e1 : ((x : Int) * 4096 % 4294967296) = ((x * 4096 % 4294967296 : Nat) : Int) := by omega
 have e2 : ((x : Int) / 1048576) = ((x / 1048576 : Nat) : Int) := by omega
 rw [e1, e2, u32_or_nat _ _ (by omega) (by omega), nat_join 12 _ _ (by omega) (by omega)]
 rfl
theorem rot12 (x : Nat) (h1 : x < 4294967296) (w : World) :
  Calls Tryd.prog 49 #[.int .u32 (x : Int), .int .i64 12] w fun e w' => e = .returned (.int .u32 (rl 12 x : Nat)) ∧ w = w' := by
 have e1 : bits BinOp.and IntKind.u64 12 31 = 12 := by decide +kernel
 have l0 : (0 : Int) ≤ (x : Int) := by omega
 have l1 : (x : Int) < 4294967296 := by omega
 go_enter Tryd.func49, Tryd.ntmps49
 go_wp2
 go_ret
 exact ⟨ret_u32 (or_12 x h1), rfl⟩
theorem rl_16 (x : Nat) : rl 16 x = x * 65536 % 4294967296 + x / 65536 := rfl
theorem rl_16_lt (x : Nat) (hx : x < 4294967296) : rl 16 x < 4294967296 := by rw [rl_16]; omega
theorem or_16 (x : Nat) (h1 : x < 4294967296) : bits BinOp.or IntKind.u32 ((x : Int) * 65536 % 4294967296) ((x : Int) / 65536) = ((rl 16 x : Nat) : Int) := by
 have e1 : ((x : Int) * 65536 % 4294967296) = ((x * 65536 % 4294967296 : Nat) : Int) := by omega
 have e2 : ((x : Int) / 65536) = ((x / 65536 : Nat) : Int) := by omega
 rw [e1, e2, u32_or_nat _ _ (by omega) (by omega), nat_join 16 _ _ (by omega) (by omega)]
 rfl
theorem rot16 (x : Nat) (h1 : x < 4294967296) (w : World) :
  Calls Tryd.prog 49 #[.int .u32 (x : Int), .int .i64 16] w fun e w' => e = .returned (.int .u32 (rl 16 x : Nat)) ∧ w = w' := by
 have e1 : bits BinOp.and IntKind.u64 16 31 = 16 := by decide +kernel
 have l0 : (0 : Int) ≤ (x : Int) := by omega
 have l1 : (x : Int) < 4294967296 := by omega
 go_enter Tryd.func49, Tryd.ntmps49
 go_wp2
 go_ret
 exact ⟨ret_u32 (or_16 x h1), rfl⟩
def St (W : World) (bk a b c d xa xb xc xd : Nat) : Prop :=
 W.cell? ⟨bk, a, none⟩ = some (.int .u32 (xa : Int)) ∧ W.cell? ⟨bk, b, none⟩ = some (.int .u32 (xb : Int)) ∧ W.cell? ⟨bk, c, none⟩ = some (.int .u32 (xc : Int)) ∧ W.cell? ⟨bk, d, none⟩ = some (.int .u32 (xd : Int)) ∧
 W.frozen? ⟨bk, a, none⟩ = false ∧ W.frozen? ⟨bk, b, none⟩ = false ∧ W.frozen? ⟨bk, c, none⟩ = false ∧ W.frozen? ⟨bk, d, none⟩ = false
theorem set_far (W : World) (bk o p : Nat) (v : Value) (h : o ≠ p) : (W.setCell ⟨bk, o, none⟩ v).cell? ⟨bk, p, none⟩ = W.cell? ⟨bk, p, none⟩ := World.cell?_setCell_other _ _ _ _ (by simp [h])
theorem St.half {W : World} {bk a b c d xa xb xc xd : Nat} (A D C B : Nat) (h : St W bk a b c d xa xb xc xd) (ab : a ≠ b) (ac : a ≠ c) (ad : a ≠ d) (bc : b ≠ c) (bd : b ≠ d) (cd : c ≠ d) :
  St (((((W.setCell ⟨bk, a, none⟩ (.int .u32 (A : Int))).setCell ⟨bk, d, none⟩ (.int .u32 (D : Int))).setCell ⟨bk, c, none⟩ (.int .u32 (C : Int))).setCell ⟨bk, b, none⟩ (.int .u32 (B : Int))).drew.drew.drew.drew) bk a b c d A B C D := by
 obtain ⟨ca, cb, cc, ce, fa, fb, fc, fd⟩ := h
 have ba := Ne.symm ab
 have ca' := Ne.symm ac
 have da := Ne.symm ad
 have cb' := Ne.symm bc
 have db := Ne.symm bd
 have dc := Ne.symm cd
 refine ⟨?_, ?_, ?_, ?_, ?_, ?_, ?_, ?_⟩
 all_goals simp (maxDischargeDepth := 12) [*, set_far, World.cell?_setCell_same']
structure Only (bk : Nat) (L : List Nat) (w w' : World) : Prop where
 os : w'.os = w.os
 tape : w'.tape = w.tape
 output : w'.output = w.output
 size : w'.heap.size = w.heap.size
 block : ∀ k, k ≠ bk → w'.heap[k]? = w.heap[k]?
 cell : ∀ o, o ∉ L → w'.cell? ⟨bk, o, none⟩ = w.cell? ⟨bk, o, none⟩
 frozen : ∀ o, w'.frozen? ⟨bk, o, none⟩ = w.frozen? ⟨bk, o, none⟩
theorem Only.refl (bk : Nat) (L : List Nat) (w : World) : Only bk L w w := ⟨rfl, rfl, rfl, rfl, fun _ _ => rfl, fun _ _ => rfl, fun _ => rfl⟩
theorem Only.trans {bk : Nat} {L : List Nat} {a b c : World} (h : Only bk L a b) (k : Only bk L b c) : Only bk L a c :=
 ⟨k.os.trans h.os, k.tape.trans h.tape, k.output.trans h.output, k.size.trans h.size, fun i hi => (k.block i hi).trans (h.block i hi), fun o ho => (k.cell o ho).trans (h.cell o ho), fun o => (k.frozen o).trans (h.frozen o)⟩
theorem Only.drew {bk : Nat} {L : List Nat} {a w : World} (h : Only bk L a w) : Only bk L a w.drew := ⟨h.os, h.tape, h.output, h.size, h.block, h.cell, h.frozen⟩
theorem Only.setCell {bk : Nat} {L : List Nat} {a w : World} (h : Only bk L a w) (o : Nat) (ho : o ∈ L) (v : Value) : Only bk L a (w.setCell ⟨bk, o, none⟩ v) :=
 h.trans ⟨rfl, rfl, rfl, by simp, fun k hk => Below.heap_setCell _ _ _ _ hk, fun p hp => set_far _ _ _ _ _ (fun e => hp (e ▸ ho)), fun p => by simp⟩
end Go.Proofs.YtlbfohpkngmaoaaDoor.Ch
