import Derived.Test.YtlbfohpkngmaoaaDoorChC5
import Derived.Test.YtlbfohpkngmaoaaDoorChC3a
import Derived.Test.YtlbfohpkngmaoaaDoorChC3b
import Derived.Test.YtlbfohpkngmaoaaDoorChC3c
import Derived.Test.YtlbfohpkngmaoaaDoorChC3d
namespace Go.Proofs.YtlbfohpkngmaoaaDoor.Ch
open Go.RowKit
theorem eta16 (L : List Nat) (h : L.length = 16) : ∃ x0 x1 x2 x3 x4 x5 x6 x7 x8 x9 x10 x11 x12 x13 x14 x15 : Nat, L = [x0, x1, x2, x3, x4, x5, x6, x7, x8, x9, x10, x11, x12, x13, x14, x15] := by
 obtain _ | ⟨x0, L⟩ := L
 ·simp at h
 obtain _ | ⟨x1, L⟩ := L
 ·simp at h
 obtain _ | ⟨x2, L⟩ := L
 ·simp at h
 obtain _ | ⟨x3, L⟩ := L
 ·simp at h
 obtain _ | ⟨x4, L⟩ := L
 ·simp at h
 obtain _ | ⟨x5, L⟩ := L
 ·simp at h
 obtain _ | ⟨x6, L⟩ := L
 ·simp at h
 obtain _ | ⟨x7, L⟩ := L
 ·simp at h
 obtain _ | ⟨x8, L⟩ := L
 ·simp at h
 obtain _ | ⟨x9, L⟩ := L
 ·simp at h
 obtain _ | ⟨x10, L⟩ := L
 ·simp at h
 obtain _ | ⟨x11, L⟩ := L
 ·simp at h
 obtain _ | ⟨x12, L⟩ := L
 ·simp at h
 obtain _ | ⟨x13, L⟩ := L
 ·simp at h
 obtain _ | ⟨x14, L⟩ := L
 ·simp at h
 obtain _ | ⟨x15, L⟩ := L
 ·simp at h
 obtain _ | ⟨x16, L⟩ := L
 ·exact ⟨_, _, _, _, _, _, _, _, _, _, _, _, _, _, _, _, rfl⟩
 ·simp at h
theorem rqL0 (w : World) (L : List Nat) (hL : W16 L) : Calls Tryd.prog 43 #[.agg (u32s L), .int .i64 0, .int .i64 4, .int .i64 8, .int .i64 12] w fun e w' => e = .returned (.agg (u32s (qr L 0 4 8 12))) ∧ Below w.heap.size w w' := by
 obtain ⟨l, bd⟩ := hL
 obtain ⟨x0, x1, x2, x3, x4, x5, x6, x7, x8, x9, x10, x11, x12, x13, x14, x15, rfl⟩ := eta16 L l
 exact rq0 w x0 x1 x2 x3 x4 x5 x6 x7 x8 x9 x10 x11 x12 x13 x14 x15 (qA1 [x0, x1, x2, x3, x4, x5, x6, x7, x8, x9, x10, x11, x12, x13, x14, x15] 0 4) (qD1 [x0, x1, x2, x3, x4, x5, x6, x7, x8, x9, x10, x11, x12, x13, x14, x15] 0 4 12) (qC1 [x0, x1, x2, x3, x4, x5, x6, x7, x8, x9, x10, x11, x12, x13, x14, x15] 0 4 8 12) (qB1 [x0, x1, x2, x3, x4, x5, x6, x7, x8, x9, x10, x11, x12, x13, x14, x15] 0 4 8 12) (qA2 [x0, x1, x2, x3, x4, x5, x6, x7, x8, x9, x10, x11, x12, x13, x14, x15] 0 4 8 12) (qD2 [x0, x1, x2, x3, x4, x5, x6, x7, x8, x9, x10, x11, x12, x13, x14, x15] 0 4 8 12) (qC2 [x0, x1, x2, x3, x4, x5, x6, x7, x8, x9, x10, x11, x12, x13, x14, x15] 0 4 8 12) (qB2 [x0, x1, x2, x3, x4, x5, x6, x7, x8, x9, x10, x11, x12, x13, x14, x15] 0 4 8 12) (bd 0) (bd 4) (bd 8) (bd 12) rfl rfl rfl rfl rfl rfl rfl rfl
theorem rqL1 (w : World) (L : List Nat) (hL : W16 L) : Calls Tryd.prog 43 #[.agg (u32s L), .int .i64 1, .int .i64 5, .int .i64 9, .int .i64 13] w fun e w' => e = .returned (.agg (u32s (qr L 1 5 9 13))) ∧ Below w.heap.size w w' := by
 obtain ⟨l, bd⟩ := hL
 obtain ⟨x0, x1, x2, x3, x4, x5, x6, x7, x8, x9, x10, x11, x12, x13, x14, x15, rfl⟩ := eta16 L l
 exact rq1 w x0 x1 x2 x3 x4 x5 x6 x7 x8 x9 x10 x11 x12 x13 x14 x15 (qA1 [x0, x1, x2, x3, x4, x5, x6, x7, x8, x9, x10, x11, x12, x13, x14, x15] 1 5) (qD1 [x0, x1, x2, x3, x4, x5, x6, x7, x8, x9, x10, x11, x12, x13, x14, x15] 1 5 13) (qC1 [x0, x1, x2, x3, x4, x5, x6, x7, x8, x9, x10, x11, x12, x13, x14, x15] 1 5 9 13) (qB1 [x0, x1, x2, x3, x4, x5, x6, x7, x8, x9, x10, x11, x12, x13, x14, x15] 1 5 9 13) (qA2 [x0, x1, x2, x3, x4, x5, x6, x7, x8, x9, x10, x11, x12, x13, x14, x15] 1 5 9 13) (qD2 [x0, x1, x2, x3, x4, x5, x6, x7, x8, x9, x10, x11, x12, x13, x14, x15] 1 5 9 13) (qC2 [x0, x1, x2, x3, x4, x5, x6, x7, x8, x9, x10, x11, x12, x13, x14, x15] 1 5 9 13) (qB2 [x0, x1, x2, x3, x4, x5, x6, x7, x8, x9, x10, x11, x12, x13, x14, x15] 1 5 9 13) (bd 1) (bd 5) (bd 9) (bd 13) rfl rfl rfl rfl rfl rfl rfl rfl
theorem rqL2 (w : World) (L : List Nat) (hL : W16 L) : Calls Tryd.prog 43 #[.agg (u32s L), .int .i64 2, .int .i64 6, .int .i64 10, .int .i64 14] w fun e w' => e = .returned (.agg (u32s (qr L 2 6 10 14))) ∧ Below w.heap.size w w' := by
 obtain ⟨l, bd⟩ := hL
 obtain ⟨x0, x1, x2, x3, x4, x5, x6, x7, x8, x9, x10, x11, x12, x13, x14, x15, rfl⟩ := eta16 L l
 exact rq2 w x0 x1 x2 x3 x4 x5 x6 x7 x8 x9 x10 x11 x12 x13 x14 x15 (qA1 [x0, x1, x2, x3, x4, x5, x6, x7, x8, x9, x10, x11, x12, x13, x14, x15] 2 6) (qD1 [x0, x1, x2, x3, x4, x5, x6, x7, x8, x9, x10, x11, x12, x13, x14, x15] 2 6 14) (qC1 [x0, x1, x2, x3, x4, x5, x6, x7, x8, x9, x10, x11, x12, x13, x14, x15] 2 6 10 14) (qB1 [x0, x1, x2, x3, x4, x5, x6, x7, x8, x9, x10, x11, x12, x13, x14, x15] 2 6 10 14) (qA2 [x0, x1, x2, x3, x4, x5, x6, x7, x8, x9, x10, x11, x12, x13, x14, x15] 2 6 10 14) (qD2 [x0, x1, x2, x3, x4, x5, x6, x7, x8, x9, x10, x11, x12, x13, x14, x15] 2 6 10 14) (qC2 [x0, x1, x2, x3, x4, x5, x6, x7, x8, x9, x10, x11, x12, x13, x14, x15] 2 6 10 14) (qB2 [x0, x1, x2, x3, x4, x5, x6, x7, x8, x9, x10, x11, x12, x13, x14, x15] 2 6 10 14) (bd 2) (bd 6) (bd 10) (bd 14) rfl rfl rfl rfl rfl rfl rfl rfl
theorem rqL3 (w : World) (L : List Nat) (hL : W16 L) : Calls Tryd.prog 43 #[.agg (u32s L), .int .i64 3, .int .i64 7, .int .i64 11, .int .i64 15] w fun e w' => e = .returned (.agg (u32s (qr L 3 7 11 15))) ∧ Below w.heap.size w w' := by
 obtain ⟨l, bd⟩ := hL
 obtain ⟨x0, x1, x2, x3, x4, x5, x6, x7, x8, x9, x10, x11, x12, x13, x14, x15, rfl⟩ := eta16 L l
 exact rq3 w x0 x1 x2 x3 x4 x5 x6 x7 x8 x9 x10 x11 x12 x13 x14 x15 (qA1 [x0, x1, x2, x3, x4, x5, x6, x7, x8, x9, x10, x11, x12, x13, x14, x15] 3 7) (qD1 [x0, x1, x2, x3, x4, x5, x6, x7, x8, x9, x10, x11, x12, x13, x14, x15] 3 7 15) (qC1 [x0, x1, x2, x3, x4, x5, x6, x7, x8, x9, x10, x11, x12, x13, x14, x15] 3 7 11 15) (qB1 [x0, x1, x2, x3, x4, x5, x6, x7, x8, x9, x10, x11, x12, x13, x14, x15] 3 7 11 15) (qA2 [x0, x1, x2, x3, x4, x5, x6, x7, x8, x9, x10, x11, x12, x13, x14, x15] 3 7 11 15) (qD2 [x0, x1, x2, x3, x4, x5, x6, x7, x8, x9, x10, x11, x12, x13, x14, x15] 3 7 11 15) (qC2 [x0, x1, x2, x3, x4, x5, x6, x7, x8, x9, x10, x11, x12, x13, x14, x15] 3 7 11 15) (qB2 [x0, x1, x2, x3, x4, x5, x6, x7, x8, x9, x10, x11, x12, x13, x14, x15] 3 7 11 15) (bd 3) (bd 7) (bd 11) (bd 15) rfl rfl rfl rfl rfl rfl rfl rfl
theorem rqL4 (w : World) (L : List Nat) (hL : W16 L) : Calls Tryd.prog 43 #[.agg (u32s L), .int .i64 0, .int .i64 5, .int .i64 10, .int .i64 15] w fun e w' => e = .returned (.agg (u32s (qr L 0 5 10 15))) ∧ Below w.heap.size w w' := by
 obtain ⟨l, bd⟩ := hL
 obtain ⟨x0, x1, x2, x3, x4, x5, x6, x7, x8, x9, x10, x11, x12, x13, x14, x15, rfl⟩ := eta16 L l
 exact rq4 w x0 x1 x2 x3 x4 x5 x6 x7 x8 x9 x10 x11 x12 x13 x14 x15 (qA1 [x0, x1, x2, x3, x4, x5, x6, x7, x8, x9, x10, x11, x12, x13, x14, x15] 0 5) (qD1 [x0, x1, x2, x3, x4, x5, x6, x7, x8, x9, x10, x11, x12, x13, x14, x15] 0 5 15) (qC1 [x0, x1, x2, x3, x4, x5, x6, x7, x8, x9, x10, x11, x12, x13, x14, x15] 0 5 10 15) (qB1 [x0, x1, x2, x3, x4, x5, x6, x7, x8, x9, x10, x11, x12, x13, x14, x15] 0 5 10 15) (qA2 [x0, x1, x2, x3, x4, x5, x6, x7, x8, x9, x10, x11, x12, x13, x14, x15] 0 5 10 15) (qD2 [x0, x1, x2, x3, x4, x5, x6, x7, x8, x9, x10, x11, x12, x13, x14, x15] 0 5 10 15) (qC2 [x0, x1, x2, x3, x4, x5, x6, x7, x8, x9, x10, x11, x12, x13, x14, x15] 0 5 10 15) (qB2 [x0, x1, x2, x3, x4, x5, x6, x7, x8, x9, x10, x11, x12, x13, x14, x15] 0 5 10 15) (bd 0) (bd 5) (bd 10) (bd 15) rfl rfl rfl rfl rfl rfl rfl rfl
theorem rqL5 (w : World) (L : List Nat) (hL : W16 L) : Calls Tryd.prog 43 #[.agg (u32s L), .int .i64 1, .int .i64 6, .int .i64 11, .int .i64 12] w fun e w' => e = .returned (.agg (u32s (qr L 1 6 11 12))) ∧ Below w.heap.size w w' := by
 obtain ⟨l, bd⟩ := hL
 obtain ⟨x0, x1, x2, x3, x4, x5, x6, x7, x8, x9, x10, x11, x12, x13, x14, x15, rfl⟩ := eta16 L l
 exact rq5 w x0 x1 x2 x3 x4 x5 x6 x7 x8 x9 x10 x11 x12 x13 x14 x15 (qA1 [x0, x1, x2, x3, x4, x5, x6, x7, x8, x9, x10, x11, x12, x13, x14, x15] 1 6) (qD1 [x0, x1, x2, x3, x4, x5, x6, x7, x8, x9, x10, x11, x12, x13, x14, x15] 1 6 12) (qC1 [x0, x1, x2, x3, x4, x5, x6, x7, x8, x9, x10, x11, x12, x13, x14, x15] 1 6 11 12) (qB1 [x0, x1, x2, x3, x4, x5, x6, x7, x8, x9, x10, x11, x12, x13, x14, x15] 1 6 11 12) (qA2 [x0, x1, x2, x3, x4, x5, x6, x7, x8, x9, x10, x11, x12, x13, x14, x15] 1 6 11 12) (qD2 [x0, x1, x2, x3, x4, x5, x6, x7, x8, x9, x10, x11, x12, x13, x14, x15] 1 6 11 12) (qC2 [x0, x1, x2, x3, x4, x5, x6, x7, x8, x9, x10, x11, x12, x13, x14, x15] 1 6 11 12) (qB2 [x0, x1, x2, x3, x4, x5, x6, x7, x8, x9, x10, x11, x12, x13, x14, x15] 1 6 11 12) (bd 1) (bd 6) (bd 11) (bd 12) rfl rfl rfl rfl rfl rfl rfl rfl
theorem rqL6 (w : World) (L : List Nat) (hL : W16 L) : Calls Tryd.prog 43 #[.agg (u32s L), .int .i64 2, .int .i64 7, .int .i64 8, .int .i64 13] w fun e w' => e = .returned (.agg (u32s (qr L 2 7 8 13))) ∧ Below w.heap.size w w' := by
 obtain ⟨l, bd⟩ := hL
 obtain ⟨x0, x1, x2, x3, x4, x5, x6, x7, x8, x9, x10, x11, x12, x13, x14, x15, rfl⟩ := eta16 L l
 exact rq6 w x0 x1 x2 x3 x4 x5 x6 x7 x8 x9 x10 x11 x12 x13 x14 x15 (qA1 [x0, x1, x2, x3, x4, x5, x6, x7, x8, x9, x10, x11, x12, x13, x14, x15] 2 7) (qD1 [x0, x1, x2, x3, x4, x5, x6, x7, x8, x9, x10, x11, x12, x13, x14, x15] 2 7 13) (qC1 [x0, x1, x2, x3, x4, x5, x6, x7, x8, x9, x10, x11, x12, x13, x14, x15] 2 7 8 13) (qB1 [x0, x1, x2, x3, x4, x5, x6, x7, x8, x9, x10, x11, x12, x13, x14, x15] 2 7 8 13) (qA2 [x0, x1, x2, x3, x4, x5, x6, x7, x8, x9, x10, x11, x12, x13, x14, x15] 2 7 8 13) (qD2 [x0, x1, x2, x3, x4, x5, x6, x7, x8, x9, x10, x11, x12, x13, x14, x15] 2 7 8 13) (qC2 [x0, x1, x2, x3, x4, x5, x6, x7, x8, x9, x10, x11, x12, x13, x14, x15] 2 7 8 13) (qB2 [x0, x1, x2, x3, x4, x5, x6, x7, x8, x9, x10, x11, x12, x13, x14, x15] 2 7 8 13) (bd 2) (bd 7) (bd 8) (bd 13) rfl rfl rfl rfl rfl rfl rfl rfl
theorem rqL7 (w : World) (L : List Nat) (hL : W16 L) : Calls Tryd.prog 43 #[.agg (u32s L), .int .i64 3, .int .i64 4, .int .i64 9, .int .i64 14] w fun e w' => e = .returned (.agg (u32s (qr L 3 4 9 14))) ∧ Below w.heap.size w w' := by
 obtain ⟨l, bd⟩ := hL
 obtain ⟨x0, x1, x2, x3, x4, x5, x6, x7, x8, x9, x10, x11, x12, x13, x14, x15, rfl⟩ := eta16 L l
 exact rq7 w x0 x1 x2 x3 x4 x5 x6 x7 x8 x9 x10 x11 x12 x13 x14 x15 (qA1 [x0, x1, x2, x3, x4, x5, x6, x7, x8, x9, x10, x11, x12, x13, x14, x15] 3 4) (qD1 [x0, x1, x2, x3, x4, x5, x6, x7, x8, x9, x10, x11, x12, x13, x14, x15] 3 4 14) (qC1 [x0, x1, x2, x3, x4, x5, x6, x7, x8, x9, x10, x11, x12, x13, x14, x15] 3 4 9 14) (qB1 [x0, x1, x2, x3, x4, x5, x6, x7, x8, x9, x10, x11, x12, x13, x14, x15] 3 4 9 14) (qA2 [x0, x1, x2, x3, x4, x5, x6, x7, x8, x9, x10, x11, x12, x13, x14, x15] 3 4 9 14) (qD2 [x0, x1, x2, x3, x4, x5, x6, x7, x8, x9, x10, x11, x12, x13, x14, x15] 3 4 9 14) (qC2 [x0, x1, x2, x3, x4, x5, x6, x7, x8, x9, x10, x11, x12, x13, x14, x15] 3 4 9 14) (qB2 [x0, x1, x2, x3, x4, x5, x6, x7, x8, x9, x10, x11, x12, x13, x14, x15] 3 4 9 14) (bd 3) (bd 4) (bd 9) (bd 14) rfl rfl rfl rfl rfl rfl rfl rfl
end Go.Proofs.YtlbfohpkngmaoaaDoor.Ch
