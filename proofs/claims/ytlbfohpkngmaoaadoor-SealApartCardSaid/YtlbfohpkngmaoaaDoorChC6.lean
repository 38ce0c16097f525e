import Derived.Test.YtlbfohpkngmaoaaDoorChC6H
import Derived.Deep.LoopGhost
namespace Go.Proofs.YtlbfohpkngmaoaaDoor.Ch
open Go.RowKit
theorem obs_zero (L M : List Nat) (n i : Nat) (hi : i < 64) (h : ¬ i / 4 < n) : (obs L M n)[i]? = some 0 := by
 unfold obs
 rw [List.getElem?_map, List.getElem?_range hi, Option.map_some, if_neg h]
def OutI (gy gx gz gO gk : Nat) (L M : List Nat) (w : World) (k : Nat) (wr : World) : Prop :=
 Six wr gy M ∧ Blk wr gx 77 (u32s L) ∧ Blk wr gz 53 (u8b (obs L M k)) ∧ Blk wr gO 53 #[.int .u8 0, .int .u8 0, .int .u8 0, .int .u8 0, .int .u8 0, .int .u8 0, .int .u8 0, .int .u8 0, .int .u8 0, .int .u8 0, .int .u8 0, .int .u8 0, .int .u8 0, .int .u8 0, .int .u8 0, .int .u8 0, .int .u8 0, .int .u8 0, .int .u8 0, .int .u8 0, .int .u8 0, .int .u8 0, .int .u8 0, .int .u8 0, .int .u8 0, .int .u8 0, .int .u8 0, .int .u8 0, .int .u8 0, .int .u8 0, .int .u8 0, .int .u8 0, .int .u8 0, .int .u8 0, .int .u8 0, .int .u8 0, .int .u8 0, .int .u8 0, .int .u8 0, .int .u8 0, .int .u8 0, .int .u8 0, .int .u8 0, .int .u8 0, .int .u8 0, .int .u8 0, .int .u8 0, .int .u8 0, .int .u8 0, .int .u8 0, .int .u8 0, .int .u8 0, .int .u8 0, .int .u8 0, .int .u8 0, .int .u8 0, .int .u8 0, .int .u8 0, .int .u8 0, .int .u8 0, .int .u8 0, .int .u8 0, .int .u8 0, .int .u8 0] ∧ Below gk w wr
theorem OutI.next {gy gx gz gO gk : Nat} {L M : List Nat} {w wr : World} (n : Nat) (h : OutI gy gx gz gO gk L M w n wr) (hn : n < 16) (ey : gy ≠ gz) (ex : gx ≠ gz) (eo : gO ≠ gz) (lz : gk ≤ gz) (S : Nat) (hS : (M.getD n 0 + L.getD n 0) % 4294967296 = S) :
  OutI gy gx gz gO gk L M w (n + 1) ((((wr.setCell ⟨gz, 4 * n, none⟩ (.int .u8 ((S : Int) % 256))).setCell ⟨gz, 4 * n + 1, none⟩ (.int .u8 ((S : Int) / 256 % 256))).setCell ⟨gz, 4 * n + 2, none⟩ (.int .u8 ((S : Int) / 65536 % 256))).setCell ⟨gz, 4 * n + 3, none⟩ (.int .u8 ((S : Int) / 16777216))).drew := by
 obtain ⟨rx, rf, rz, ro, bw⟩ := h
 have OU := ot4 gz (4 * n) (4 * n + 1) (4 * n + 2) (4 * n + 3) wr (.int .u8 ((S : Int) % 256)) (.int .u8 ((S : Int) / 256 % 256)) (.int .u8 ((S : Int) / 65536 % 256)) (.int .u8 ((S : Int) / 16777216))
 exact ⟨rx.far (OU.2.2.2.2 _ ey), OU.blk rf ex, obs_set n rz hn S hS, OU.blk ro eo, OU.below bw lz⟩
set_option maxHeartbeats 8000000 in
theorem block_any (X Y : Nat → Nat) (c : Nat) (bX : ∀ j, X j < 256) (bY : ∀ j, Y j < 256) (hc : c < 4294967296) (w : World) :
  Calls Tryd.prog 17 #[.agg (u8s 32 X), .agg (u8s 12 Y), .int .u32 (c : Int)] w fun e w' => e = .returned (.agg (u8b (obs [1634760805, 857760878, 2036477234, 1797285236, (le4 (X 0) (X 1) (X 2) (X 3)), (le4 (X 4) (X 5) (X 6) (X 7)), (le4 (X 8) (X 9) (X 10) (X 11)), (le4 (X 12) (X 13) (X 14) (X 15)), (le4 (X 16) (X 17) (X 18) (X 19)), (le4 (X 20) (X 21) (X 22) (X 23)), (le4 (X 24) (X 25) (X 26) (X 27)), (le4 (X 28) (X 29) (X 30) (X 31)), c, (le4 (Y 0) (Y 1) (Y 2) (Y 3)), (le4 (Y 4) (Y 5) (Y 6) (Y 7)), (le4 (Y 8) (Y 9) (Y 10) (Y 11))] (drounds 10 [1634760805, 857760878, 2036477234, 1797285236, (le4 (X 0) (X 1) (X 2) (X 3)), (le4 (X 4) (X 5) (X 6) (X 7)), (le4 (X 8) (X 9) (X 10) (X 11)), (le4 (X 12) (X 13) (X 14) (X 15)), (le4 (X 16) (X 17) (X 18) (X 19)), (le4 (X 20) (X 21) (X 22) (X 23)), (le4 (X 24) (X 25) (X 26) (X 27)), (le4 (X 28) (X 29) (X 30) (X 31)), c, (le4 (Y 0) (Y 1) (Y 2) (Y 3)), (le4 (Y 4) (Y 5) (Y 6) (Y 7)), (le4 (Y 8) (Y 9) (Y 10) (Y 11))]) 16))) ∧ Below w.heap.size w w' := by
 have BX := Lib.hid bX
 have BY := Lib.hid bY
 clear bX bY
 go_enter Tryd.func17, Tryd.ntmps17
 go_wp2_with (first | (refine wpList_load_row rfl 23 _ rfl w.heap.size rfl 23 _ (0, 0) _ (blk3 w _ _ _ _ _ _).1 Tryd.underlying23 rfl (by kernel_rfl) ?_) | (refine wpList_load_row rfl 27 _ rfl (w.heap.size + 1) rfl 27 _ (0, 0) _ (blk3 w _ _ _ _ _ _).2.1 Tryd.underlying27 rfl (by kernel_rfl) ?_))
 refine (state_any X Y c BX.out BY.out _).mono ?_
 rintro e w1 ⟨rfl, hb⟩
 have RO : Hid (Blk w1 (w.heap.size + 1 + 1) 53 #[.int .u8 0, .int .u8 0, .int .u8 0, .int .u8 0, .int .u8 0, .int .u8 0, .int .u8 0, .int .u8 0, .int .u8 0, .int .u8 0, .int .u8 0, .int .u8 0, .int .u8 0, .int .u8 0, .int .u8 0, .int .u8 0, .int .u8 0, .int .u8 0, .int .u8 0, .int .u8 0, .int .u8 0, .int .u8 0, .int .u8 0, .int .u8 0, .int .u8 0, .int .u8 0, .int .u8 0, .int .u8 0, .int .u8 0, .int .u8 0, .int .u8 0, .int .u8 0, .int .u8 0, .int .u8 0, .int .u8 0, .int .u8 0, .int .u8 0, .int .u8 0, .int .u8 0, .int .u8 0, .int .u8 0, .int .u8 0, .int .u8 0, .int .u8 0, .int .u8 0, .int .u8 0, .int .u8 0, .int .u8 0, .int .u8 0, .int .u8 0, .int .u8 0, .int .u8 0, .int .u8 0, .int .u8 0, .int .u8 0, .int .u8 0, .int .u8 0, .int .u8 0, .int .u8 0, .int .u8 0, .int .u8 0, .int .u8 0, .int .u8 0, .int .u8 0]) := Lib.hid ((hb.block _ (by simp)).trans (blk3 w _ _ _ 23 27 53).2.2)
 have SZ : Hid (w.heap.size + 1 + 1 < w1.heap.size) := Lib.hid (by have := hb.size; simp at this; omega)
 have BW : Hid (Below w.heap.size w w1) := Lib.hid (by
  refine Below.trans ?_ (hb.mono (by simp; omega))
  repeat (first | exact Below.refl _ _ | refine below_alloc' ?_ (Nat.le_refl _) _))
 clear hb
 go_wp2_with (first | (refine wpList_store_row rfl 77 _ _ rfl w1.heap.size _ rfl rfl 77 _ (Blk.new w1 77 _) ?_ ?_ ?_ ?_) | (refine wpList_load_row rfl 77 _ rfl w1.heap.size rfl 77 _ (0, 0) _ (setRow_heap _ _ _ _ _ _ (Blk.new w1 77 _)) Tryd.underlying77 rfl (by kernel_rfl) ?_) | (refine wpList_store_row rfl 77 _ _ rfl (w1.heap.size + 1) _ rfl rfl 77 _ (Blk.new' ((w1.alloc _).setRow _ _) 77 _ (w1.heap.size + 1) (by simp)) ?_ ?_ ?_ ?_))
 all_goals (try (first | (rw [u32s_size]; kernel_rfl) | (rw [u32s_size]; rfl) | exact u32s_one _))
 obtain ⟨W2, hW2⟩ : ∃ V, V = (w1.alloc (.cells #[.int .u32 0, .int .u32 0, .int .u32 0, .int .u32 0, .int .u32 0, .int .u32 0, .int .u32 0, .int .u32 0, .int .u32 0, .int .u32 0, .int .u32 0, .int .u32 0, .int .u32 0, .int .u32 0, .int .u32 0, .int .u32 0] 77)).setRow w1.heap.size (u32s [1634760805, 857760878, 2036477234, 1797285236, (le4 (X 0) (X 1) (X 2) (X 3)), (le4 (X 4) (X 5) (X 6) (X 7)), (le4 (X 8) (X 9) (X 10) (X 11)), (le4 (X 12) (X 13) (X 14) (X 15)), (le4 (X 16) (X 17) (X 18) (X 19)), (le4 (X 20) (X 21) (X 22) (X 23)), (le4 (X 24) (X 25) (X 26) (X 27)), (le4 (X 28) (X 29) (X 30) (X 31)), c, (le4 (Y 0) (Y 1) (Y 2) (Y 3)), (le4 (Y 4) (Y 5) (Y 6) (Y 7)), (le4 (Y 8) (Y 9) (Y 10) (Y 11))]) := ⟨_, rfl⟩
 have RF : Hid (Blk W2 w1.heap.size 77 (u32s [1634760805, 857760878, 2036477234, 1797285236, (le4 (X 0) (X 1) (X 2) (X 3)), (le4 (X 4) (X 5) (X 6) (X 7)), (le4 (X 8) (X 9) (X 10) (X 11)), (le4 (X 12) (X 13) (X 14) (X 15)), (le4 (X 16) (X 17) (X 18) (X 19)), (le4 (X 20) (X 21) (X 22) (X 23)), (le4 (X 24) (X 25) (X 26) (X 27)), (le4 (X 28) (X 29) (X 30) (X 31)), c, (le4 (Y 0) (Y 1) (Y 2) (Y 3)), (le4 (Y 4) (Y 5) (Y 6) (Y 7)), (le4 (Y 8) (Y 9) (Y 10) (Y 11))])) := Lib.hid (by rw [hW2]; exact setRow_heap _ _ _ _ _ _ (Blk.new w1 77 _))
 have DO : Hid (w.heap.size + 1 + 1 ≠ w1.heap.size) := Lib.hid (by have := SZ.out; omega)
 have LW : Hid (w.heap.size ≤ w1.heap.size) := Lib.hid (by have := SZ.out; omega)
 have LO : Hid (w.heap.size ≤ w.heap.size + 1 + 1) := Lib.hid (by omega)
 replace RO : Hid (Blk W2 (w.heap.size + 1 + 1) 53 #[.int .u8 0, .int .u8 0, .int .u8 0, .int .u8 0, .int .u8 0, .int .u8 0, .int .u8 0, .int .u8 0, .int .u8 0, .int .u8 0, .int .u8 0, .int .u8 0, .int .u8 0, .int .u8 0, .int .u8 0, .int .u8 0, .int .u8 0, .int .u8 0, .int .u8 0, .int .u8 0, .int .u8 0, .int .u8 0, .int .u8 0, .int .u8 0, .int .u8 0, .int .u8 0, .int .u8 0, .int .u8 0, .int .u8 0, .int .u8 0, .int .u8 0, .int .u8 0, .int .u8 0, .int .u8 0, .int .u8 0, .int .u8 0, .int .u8 0, .int .u8 0, .int .u8 0, .int .u8 0, .int .u8 0, .int .u8 0, .int .u8 0, .int .u8 0, .int .u8 0, .int .u8 0, .int .u8 0, .int .u8 0, .int .u8 0, .int .u8 0, .int .u8 0, .int .u8 0, .int .u8 0, .int .u8 0, .int .u8 0, .int .u8 0, .int .u8 0, .int .u8 0, .int .u8 0, .int .u8 0, .int .u8 0, .int .u8 0, .int .u8 0, .int .u8 0]) := Lib.hid (by rw [hW2]; exact (setRow_other _ _ _ _ DO.out).trans (RO.out.alloc _))
 have S2 : Hid (W2.heap.size = w1.heap.size + 1) := Lib.hid (by rw [hW2]; simp)
 replace BW : Hid (Below w.heap.size w W2) := Lib.hid (by rw [hW2]; exact below_setRow (below_alloc' BW.out (Nat.le_refl _) _) LW.out _)
 obtain ⟨W3, hW3⟩ : ∃ V, V = (((w1.alloc (.cells #[.int .u32 0, .int .u32 0, .int .u32 0, .int .u32 0, .int .u32 0, .int .u32 0, .int .u32 0, .int .u32 0, .int .u32 0, .int .u32 0, .int .u32 0, .int .u32 0, .int .u32 0, .int .u32 0, .int .u32 0, .int .u32 0] 77)).setRow w1.heap.size (u32s [1634760805, 857760878, 2036477234, 1797285236, (le4 (X 0) (X 1) (X 2) (X 3)), (le4 (X 4) (X 5) (X 6) (X 7)), (le4 (X 8) (X 9) (X 10) (X 11)), (le4 (X 12) (X 13) (X 14) (X 15)), (le4 (X 16) (X 17) (X 18) (X 19)), (le4 (X 20) (X 21) (X 22) (X 23)), (le4 (X 24) (X 25) (X 26) (X 27)), (le4 (X 28) (X 29) (X 30) (X 31)), c, (le4 (Y 0) (Y 1) (Y 2) (Y 3)), (le4 (Y 4) (Y 5) (Y 6) (Y 7)), (le4 (Y 8) (Y 9) (Y 10) (Y 11))])).alloc (.cells #[.int .u32 0, .int .u32 0, .int .u32 0, .int .u32 0, .int .u32 0, .int .u32 0, .int .u32 0, .int .u32 0, .int .u32 0, .int .u32 0, .int .u32 0, .int .u32 0, .int .u32 0, .int .u32 0, .int .u32 0, .int .u32 0] 77)).setRow (w1.heap.size + 1) (u32s [1634760805, 857760878, 2036477234, 1797285236, (le4 (X 0) (X 1) (X 2) (X 3)), (le4 (X 4) (X 5) (X 6) (X 7)), (le4 (X 8) (X 9) (X 10) (X 11)), (le4 (X 12) (X 13) (X 14) (X 15)), (le4 (X 16) (X 17) (X 18) (X 19)), (le4 (X 20) (X 21) (X 22) (X 23)), (le4 (X 24) (X 25) (X 26) (X 27)), (le4 (X 28) (X 29) (X 30) (X 31)), c, (le4 (Y 0) (Y 1) (Y 2) (Y 3)), (le4 (Y 4) (Y 5) (Y 6) (Y 7)), (le4 (Y 8) (Y 9) (Y 10) (Y 11))]) := ⟨_, rfl⟩
 rw [← hW3]
 rw [← hW2] at hW3
 rw [← S2.out] at hW3
 have D2 : Hid (w1.heap.size ≠ W2.heap.size) := Lib.hid (by rw [S2.out]; omega)
 have DO2 : Hid (w.heap.size + 1 + 1 ≠ W2.heap.size) := Lib.hid (by rw [S2.out]; have := SZ.out; omega)
 have LW2 : Hid (w.heap.size ≤ W2.heap.size) := Lib.hid (by rw [S2.out]; have := SZ.out; omega)
 replace RF : Hid (Blk W3 w1.heap.size 77 (u32s [1634760805, 857760878, 2036477234, 1797285236, (le4 (X 0) (X 1) (X 2) (X 3)), (le4 (X 4) (X 5) (X 6) (X 7)), (le4 (X 8) (X 9) (X 10) (X 11)), (le4 (X 12) (X 13) (X 14) (X 15)), (le4 (X 16) (X 17) (X 18) (X 19)), (le4 (X 20) (X 21) (X 22) (X 23)), (le4 (X 24) (X 25) (X 26) (X 27)), (le4 (X 28) (X 29) (X 30) (X 31)), c, (le4 (Y 0) (Y 1) (Y 2) (Y 3)), (le4 (Y 4) (Y 5) (Y 6) (Y 7)), (le4 (Y 8) (Y 9) (Y 10) (Y 11))])) := Lib.hid (by rw [hW3]; exact (setRow_other _ _ _ _ D2.out).trans (RF.out.alloc _))
 have RX : Hid (Six W3 W2.heap.size [1634760805, 857760878, 2036477234, 1797285236, (le4 (X 0) (X 1) (X 2) (X 3)), (le4 (X 4) (X 5) (X 6) (X 7)), (le4 (X 8) (X 9) (X 10) (X 11)), (le4 (X 12) (X 13) (X 14) (X 15)), (le4 (X 16) (X 17) (X 18) (X 19)), (le4 (X 20) (X 21) (X 22) (X 23)), (le4 (X 24) (X 25) (X 26) (X 27)), (le4 (X 28) (X 29) (X 30) (X 31)), c, (le4 (Y 0) (Y 1) (Y 2) (Y 3)), (le4 (Y 4) (Y 5) (Y 6) (Y 7)), (le4 (Y 8) (Y 9) (Y 10) (Y 11))]) := Lib.hid (Six.of (by rw [hW3]; exact setRow_heap _ _ _ _ _ _ (Blk.new W2 77 _)) rfl)
 replace RO : Hid (Blk W3 (w.heap.size + 1 + 1) 53 #[.int .u8 0, .int .u8 0, .int .u8 0, .int .u8 0, .int .u8 0, .int .u8 0, .int .u8 0, .int .u8 0, .int .u8 0, .int .u8 0, .int .u8 0, .int .u8 0, .int .u8 0, .int .u8 0, .int .u8 0, .int .u8 0, .int .u8 0, .int .u8 0, .int .u8 0, .int .u8 0, .int .u8 0, .int .u8 0, .int .u8 0, .int .u8 0, .int .u8 0, .int .u8 0, .int .u8 0, .int .u8 0, .int .u8 0, .int .u8 0, .int .u8 0, .int .u8 0, .int .u8 0, .int .u8 0, .int .u8 0, .int .u8 0, .int .u8 0, .int .u8 0, .int .u8 0, .int .u8 0, .int .u8 0, .int .u8 0, .int .u8 0, .int .u8 0, .int .u8 0, .int .u8 0, .int .u8 0, .int .u8 0, .int .u8 0, .int .u8 0, .int .u8 0, .int .u8 0, .int .u8 0, .int .u8 0, .int .u8 0, .int .u8 0, .int .u8 0, .int .u8 0, .int .u8 0, .int .u8 0, .int .u8 0, .int .u8 0, .int .u8 0, .int .u8 0]) := Lib.hid (by rw [hW3]; exact (setRow_other _ _ _ _ DO2.out).trans (RO.out.alloc _))
 replace BW : Hid (Below w.heap.size w W3) := Lib.hid (by rw [hW3]; exact below_setRow (below_alloc' BW.out (Nat.le_refl _) _) LW2.out _)
 have S3 : Hid (W3.heap.size = W2.heap.size + 1) := Lib.hid (by rw [hW3]; simp)
 clear hW3 hW2
 rw [S2.out] at D2 DO2 LW2 RX S3
 clear S2 SZ
 have WF : Hid (W16 [1634760805, 857760878, 2036477234, 1797285236, (le4 (X 0) (X 1) (X 2) (X 3)), (le4 (X 4) (X 5) (X 6) (X 7)), (le4 (X 8) (X 9) (X 10) (X 11)), (le4 (X 12) (X 13) (X 14) (X 15)), (le4 (X 16) (X 17) (X 18) (X 19)), (le4 (X 20) (X 21) (X 22) (X 23)), (le4 (X 24) (X 25) (X 26) (X 27)), (le4 (X 28) (X 29) (X 30) (X 31)), c, (le4 (Y 0) (Y 1) (Y 2) (Y 3)), (le4 (Y 4) (Y 5) (Y 6) (Y 7)), (le4 (Y 8) (Y 9) (Y 10) (Y 11))]) := Lib.hid (st_w16 X Y c BX.out BY.out hc)
 clear hc
 generalize hL : ([1634760805, 857760878, 2036477234, 1797285236, (le4 (X 0) (X 1) (X 2) (X 3)), (le4 (X 4) (X 5) (X 6) (X 7)), (le4 (X 8) (X 9) (X 10) (X 11)), (le4 (X 12) (X 13) (X 14) (X 15)), (le4 (X 16) (X 17) (X 18) (X 19)), (le4 (X 20) (X 21) (X 22) (X 23)), (le4 (X 24) (X 25) (X 26) (X 27)), (le4 (X 28) (X 29) (X 30) (X 31)), c, (le4 (Y 0) (Y 1) (Y 2) (Y 3)), (le4 (Y 4) (Y 5) (Y 6) (Y 7)), (le4 (Y 8) (Y 9) (Y 10) (Y 11))] : List Nat) = L at *
 have EL := Lib.hid hL
 clear hL
 generalize w1.heap.size + 1 = gy at *
 generalize w1.heap.size = gx at *
 generalize w.heap.size + 1 + 1 = gO at *
 generalize hgk : w.heap.size = gk at *
 have EK := Lib.hid hgk
 clear hgk
 replace RX : Hid (Six W3 gy (drounds 0 L)) := RX
 have OT : Hid (Ot gy W3 W3) := Lib.hid (Ot.refl _ _)
 refine wp_loop_rounds 11 ?_
 rw [rounds_succ]
 have RW : Hid (W16 (drounds 0 L)) := Lib.hid (drounds_w16 WF.out 0)
 go_wp2_with fail
 refine (quarter16 _ gy (drounds 0 L) RX.out RW.out 0 4 8 12 (by omega) (by omega) (by omega) (by omega) (by omega) (by omega) (by omega) (by omega) (by omega) (by omega)).mono ?_
 rintro e V0 ⟨rfl, hx, ho⟩
 replace RX : Hid (Six V0 gy (qr (drounds 0 L) 0 4 8 12)) := Lib.hid hx
 replace RW : Hid (W16 (qr (drounds 0 L) 0 4 8 12)) := Lib.hid (qr_w16 RW.out _ _ _ _ (by omega) (by omega) (by omega) (by omega))
 replace OT : Hid (Ot gy W3 V0) := Lib.hid (OT.out.trans ho)
 clear hx ho
 go_wp2_with fail
 refine (quarter16 _ gy (qr (drounds 0 L) 0 4 8 12) RX.out RW.out 1 5 9 13 (by omega) (by omega) (by omega) (by omega) (by omega) (by omega) (by omega) (by omega) (by omega) (by omega)).mono ?_
 rintro e V1 ⟨rfl, hx, ho⟩
 replace RX : Hid (Six V1 gy (qr (qr (drounds 0 L) 0 4 8 12) 1 5 9 13)) := Lib.hid hx
 replace RW : Hid (W16 (qr (qr (drounds 0 L) 0 4 8 12) 1 5 9 13)) := Lib.hid (qr_w16 RW.out _ _ _ _ (by omega) (by omega) (by omega) (by omega))
 replace OT : Hid (Ot gy W3 V1) := Lib.hid (OT.out.trans ho)
 clear hx ho
 go_wp2_with fail
 refine (quarter16 _ gy (qr (qr (drounds 0 L) 0 4 8 12) 1 5 9 13) RX.out RW.out 2 6 10 14 (by omega) (by omega) (by omega) (by omega) (by omega) (by omega) (by omega) (by omega) (by omega) (by omega)).mono ?_
 rintro e V2 ⟨rfl, hx, ho⟩
 replace RX : Hid (Six V2 gy (qr (qr (qr (drounds 0 L) 0 4 8 12) 1 5 9 13) 2 6 10 14)) := Lib.hid hx
 replace RW : Hid (W16 (qr (qr (qr (drounds 0 L) 0 4 8 12) 1 5 9 13) 2 6 10 14)) := Lib.hid (qr_w16 RW.out _ _ _ _ (by omega) (by omega) (by omega) (by omega))
 replace OT : Hid (Ot gy W3 V2) := Lib.hid (OT.out.trans ho)
 clear hx ho
 go_wp2_with fail
 refine (quarter16 _ gy (qr (qr (qr (drounds 0 L) 0 4 8 12) 1 5 9 13) 2 6 10 14) RX.out RW.out 3 7 11 15 (by omega) (by omega) (by omega) (by omega) (by omega) (by omega) (by omega) (by omega) (by omega) (by omega)).mono ?_
 rintro e V3 ⟨rfl, hx, ho⟩
 replace RX : Hid (Six V3 gy (qr (qr (qr (qr (drounds 0 L) 0 4 8 12) 1 5 9 13) 2 6 10 14) 3 7 11 15)) := Lib.hid hx
 replace RW : Hid (W16 (qr (qr (qr (qr (drounds 0 L) 0 4 8 12) 1 5 9 13) 2 6 10 14) 3 7 11 15)) := Lib.hid (qr_w16 RW.out _ _ _ _ (by omega) (by omega) (by omega) (by omega))
 replace OT : Hid (Ot gy W3 V3) := Lib.hid (OT.out.trans ho)
 clear hx ho
 go_wp2_with fail
 refine (quarter16 _ gy (qr (qr (qr (qr (drounds 0 L) 0 4 8 12) 1 5 9 13) 2 6 10 14) 3 7 11 15) RX.out RW.out 0 5 10 15 (by omega) (by omega) (by omega) (by omega) (by omega) (by omega) (by omega) (by omega) (by omega) (by omega)).mono ?_
 rintro e V4 ⟨rfl, hx, ho⟩
 replace RX : Hid (Six V4 gy (qr (qr (qr (qr (qr (drounds 0 L) 0 4 8 12) 1 5 9 13) 2 6 10 14) 3 7 11 15) 0 5 10 15)) := Lib.hid hx
 replace RW : Hid (W16 (qr (qr (qr (qr (qr (drounds 0 L) 0 4 8 12) 1 5 9 13) 2 6 10 14) 3 7 11 15) 0 5 10 15)) := Lib.hid (qr_w16 RW.out _ _ _ _ (by omega) (by omega) (by omega) (by omega))
 replace OT : Hid (Ot gy W3 V4) := Lib.hid (OT.out.trans ho)
 clear hx ho
 go_wp2_with fail
 refine (quarter16 _ gy (qr (qr (qr (qr (qr (drounds 0 L) 0 4 8 12) 1 5 9 13) 2 6 10 14) 3 7 11 15) 0 5 10 15) RX.out RW.out 1 6 11 12 (by omega) (by omega) (by omega) (by omega) (by omega) (by omega) (by omega) (by omega) (by omega) (by omega)).mono ?_
 rintro e V5 ⟨rfl, hx, ho⟩
 replace RX : Hid (Six V5 gy (qr (qr (qr (qr (qr (qr (drounds 0 L) 0 4 8 12) 1 5 9 13) 2 6 10 14) 3 7 11 15) 0 5 10 15) 1 6 11 12)) := Lib.hid hx
 replace RW : Hid (W16 (qr (qr (qr (qr (qr (qr (drounds 0 L) 0 4 8 12) 1 5 9 13) 2 6 10 14) 3 7 11 15) 0 5 10 15) 1 6 11 12)) := Lib.hid (qr_w16 RW.out _ _ _ _ (by omega) (by omega) (by omega) (by omega))
 replace OT : Hid (Ot gy W3 V5) := Lib.hid (OT.out.trans ho)
 clear hx ho
 go_wp2_with fail
 refine (quarter16 _ gy (qr (qr (qr (qr (qr (qr (drounds 0 L) 0 4 8 12) 1 5 9 13) 2 6 10 14) 3 7 11 15) 0 5 10 15) 1 6 11 12) RX.out RW.out 2 7 8 13 (by omega) (by omega) (by omega) (by omega) (by omega) (by omega) (by omega) (by omega) (by omega) (by omega)).mono ?_
 rintro e V6 ⟨rfl, hx, ho⟩
 replace RX : Hid (Six V6 gy (qr (qr (qr (qr (qr (qr (qr (drounds 0 L) 0 4 8 12) 1 5 9 13) 2 6 10 14) 3 7 11 15) 0 5 10 15) 1 6 11 12) 2 7 8 13)) := Lib.hid hx
 replace RW : Hid (W16 (qr (qr (qr (qr (qr (qr (qr (drounds 0 L) 0 4 8 12) 1 5 9 13) 2 6 10 14) 3 7 11 15) 0 5 10 15) 1 6 11 12) 2 7 8 13)) := Lib.hid (qr_w16 RW.out _ _ _ _ (by omega) (by omega) (by omega) (by omega))
 replace OT : Hid (Ot gy W3 V6) := Lib.hid (OT.out.trans ho)
 clear hx ho
 go_wp2_with fail
 refine (quarter16 _ gy (qr (qr (qr (qr (qr (qr (qr (drounds 0 L) 0 4 8 12) 1 5 9 13) 2 6 10 14) 3 7 11 15) 0 5 10 15) 1 6 11 12) 2 7 8 13) RX.out RW.out 3 4 9 14 (by omega) (by omega) (by omega) (by omega) (by omega) (by omega) (by omega) (by omega) (by omega) (by omega)).mono ?_
 rintro e V7 ⟨rfl, hx, ho⟩
 replace RX : Hid (Six V7 gy (qr (qr (qr (qr (qr (qr (qr (qr (drounds 0 L) 0 4 8 12) 1 5 9 13) 2 6 10 14) 3 7 11 15) 0 5 10 15) 1 6 11 12) 2 7 8 13) 3 4 9 14)) := Lib.hid hx
 replace RW : Hid (W16 (qr (qr (qr (qr (qr (qr (qr (qr (drounds 0 L) 0 4 8 12) 1 5 9 13) 2 6 10 14) 3 7 11 15) 0 5 10 15) 1 6 11 12) 2 7 8 13) 3 4 9 14)) := Lib.hid (qr_w16 RW.out _ _ _ _ (by omega) (by omega) (by omega) (by omega))
 replace OT : Hid (Ot gy W3 V7) := Lib.hid (OT.out.trans ho)
 clear hx ho
 replace RX : Hid (Six V7 gy (drounds 1 L)) := RX
 clear RW
 go_wp2_with fail
 rw [rounds_succ]
 have RW : Hid (W16 (drounds 1 L)) := Lib.hid (drounds_w16 WF.out 1)
 go_wp2_with fail
 refine (quarter16 _ gy (drounds 1 L) RX.out RW.out 0 4 8 12 (by omega) (by omega) (by omega) (by omega) (by omega) (by omega) (by omega) (by omega) (by omega) (by omega)).mono ?_
 rintro e V8 ⟨rfl, hx, ho⟩
 replace RX : Hid (Six V8 gy (qr (drounds 1 L) 0 4 8 12)) := Lib.hid hx
 replace RW : Hid (W16 (qr (drounds 1 L) 0 4 8 12)) := Lib.hid (qr_w16 RW.out _ _ _ _ (by omega) (by omega) (by omega) (by omega))
 replace OT : Hid (Ot gy W3 V8) := Lib.hid (OT.out.trans ho)
 clear hx ho
 go_wp2_with fail
 refine (quarter16 _ gy (qr (drounds 1 L) 0 4 8 12) RX.out RW.out 1 5 9 13 (by omega) (by omega) (by omega) (by omega) (by omega) (by omega) (by omega) (by omega) (by omega) (by omega)).mono ?_
 rintro e V9 ⟨rfl, hx, ho⟩
 replace RX : Hid (Six V9 gy (qr (qr (drounds 1 L) 0 4 8 12) 1 5 9 13)) := Lib.hid hx
 replace RW : Hid (W16 (qr (qr (drounds 1 L) 0 4 8 12) 1 5 9 13)) := Lib.hid (qr_w16 RW.out _ _ _ _ (by omega) (by omega) (by omega) (by omega))
 replace OT : Hid (Ot gy W3 V9) := Lib.hid (OT.out.trans ho)
 clear hx ho
 go_wp2_with fail
 refine (quarter16 _ gy (qr (qr (drounds 1 L) 0 4 8 12) 1 5 9 13) RX.out RW.out 2 6 10 14 (by omega) (by omega) (by omega) (by omega) (by omega) (by omega) (by omega) (by omega) (by omega) (by omega)).mono ?_
 rintro e V10 ⟨rfl, hx, ho⟩
 replace RX : Hid (Six V10 gy (qr (qr (qr (drounds 1 L) 0 4 8 12) 1 5 9 13) 2 6 10 14)) := Lib.hid hx
 replace RW : Hid (W16 (qr (qr (qr (drounds 1 L) 0 4 8 12) 1 5 9 13) 2 6 10 14)) := Lib.hid (qr_w16 RW.out _ _ _ _ (by omega) (by omega) (by omega) (by omega))
 replace OT : Hid (Ot gy W3 V10) := Lib.hid (OT.out.trans ho)
 clear hx ho
 go_wp2_with fail
 refine (quarter16 _ gy (qr (qr (qr (drounds 1 L) 0 4 8 12) 1 5 9 13) 2 6 10 14) RX.out RW.out 3 7 11 15 (by omega) (by omega) (by omega) (by omega) (by omega) (by omega) (by omega) (by omega) (by omega) (by omega)).mono ?_
 rintro e V11 ⟨rfl, hx, ho⟩
 replace RX : Hid (Six V11 gy (qr (qr (qr (qr (drounds 1 L) 0 4 8 12) 1 5 9 13) 2 6 10 14) 3 7 11 15)) := Lib.hid hx
 replace RW : Hid (W16 (qr (qr (qr (qr (drounds 1 L) 0 4 8 12) 1 5 9 13) 2 6 10 14) 3 7 11 15)) := Lib.hid (qr_w16 RW.out _ _ _ _ (by omega) (by omega) (by omega) (by omega))
 replace OT : Hid (Ot gy W3 V11) := Lib.hid (OT.out.trans ho)
 clear hx ho
 go_wp2_with fail
 refine (quarter16 _ gy (qr (qr (qr (qr (drounds 1 L) 0 4 8 12) 1 5 9 13) 2 6 10 14) 3 7 11 15) RX.out RW.out 0 5 10 15 (by omega) (by omega) (by omega) (by omega) (by omega) (by omega) (by omega) (by omega) (by omega) (by omega)).mono ?_
 rintro e V12 ⟨rfl, hx, ho⟩
 replace RX : Hid (Six V12 gy (qr (qr (qr (qr (qr (drounds 1 L) 0 4 8 12) 1 5 9 13) 2 6 10 14) 3 7 11 15) 0 5 10 15)) := Lib.hid hx
 replace RW : Hid (W16 (qr (qr (qr (qr (qr (drounds 1 L) 0 4 8 12) 1 5 9 13) 2 6 10 14) 3 7 11 15) 0 5 10 15)) := Lib.hid (qr_w16 RW.out _ _ _ _ (by omega) (by omega) (by omega) (by omega))
 replace OT : Hid (Ot gy W3 V12) := Lib.hid (OT.out.trans ho)
 clear hx ho
 go_wp2_with fail
 refine (quarter16 _ gy (qr (qr (qr (qr (qr (drounds 1 L) 0 4 8 12) 1 5 9 13) 2 6 10 14) 3 7 11 15) 0 5 10 15) RX.out RW.out 1 6 11 12 (by omega) (by omega) (by omega) (by omega) (by omega) (by omega) (by omega) (by omega) (by omega) (by omega)).mono ?_
 rintro e V13 ⟨rfl, hx, ho⟩
 replace RX : Hid (Six V13 gy (qr (qr (qr (qr (qr (qr (drounds 1 L) 0 4 8 12) 1 5 9 13) 2 6 10 14) 3 7 11 15) 0 5 10 15) 1 6 11 12)) := Lib.hid hx
 replace RW : Hid (W16 (qr (qr (qr (qr (qr (qr (drounds 1 L) 0 4 8 12) 1 5 9 13) 2 6 10 14) 3 7 11 15) 0 5 10 15) 1 6 11 12)) := Lib.hid (qr_w16 RW.out _ _ _ _ (by omega) (by omega) (by omega) (by omega))
 replace OT : Hid (Ot gy W3 V13) := Lib.hid (OT.out.trans ho)
 clear hx ho
 go_wp2_with fail
 refine (quarter16 _ gy (qr (qr (qr (qr (qr (qr (drounds 1 L) 0 4 8 12) 1 5 9 13) 2 6 10 14) 3 7 11 15) 0 5 10 15) 1 6 11 12) RX.out RW.out 2 7 8 13 (by omega) (by omega) (by omega) (by omega) (by omega) (by omega) (by omega) (by omega) (by omega) (by omega)).mono ?_
 rintro e V14 ⟨rfl, hx, ho⟩
 replace RX : Hid (Six V14 gy (qr (qr (qr (qr (qr (qr (qr (drounds 1 L) 0 4 8 12) 1 5 9 13) 2 6 10 14) 3 7 11 15) 0 5 10 15) 1 6 11 12) 2 7 8 13)) := Lib.hid hx
 replace RW : Hid (W16 (qr (qr (qr (qr (qr (qr (qr (drounds 1 L) 0 4 8 12) 1 5 9 13) 2 6 10 14) 3 7 11 15) 0 5 10 15) 1 6 11 12) 2 7 8 13)) := Lib.hid (qr_w16 RW.out _ _ _ _ (by omega) (by omega) (by omega) (by omega))
 replace OT : Hid (Ot gy W3 V14) := Lib.hid (OT.out.trans ho)
 clear hx ho
 go_wp2_with fail
 refine (quarter16 _ gy (qr (qr (qr (qr (qr (qr (qr (drounds 1 L) 0 4 8 12) 1 5 9 13) 2 6 10 14) 3 7 11 15) 0 5 10 15) 1 6 11 12) 2 7 8 13) RX.out RW.out 3 4 9 14 (by omega) (by omega) (by omega) (by omega) (by omega) (by omega) (by omega) (by omega) (by omega) (by omega)).mono ?_
 rintro e V15 ⟨rfl, hx, ho⟩
 replace RX : Hid (Six V15 gy (qr (qr (qr (qr (qr (qr (qr (qr (drounds 1 L) 0 4 8 12) 1 5 9 13) 2 6 10 14) 3 7 11 15) 0 5 10 15) 1 6 11 12) 2 7 8 13) 3 4 9 14)) := Lib.hid hx
 replace RW : Hid (W16 (qr (qr (qr (qr (qr (qr (qr (qr (drounds 1 L) 0 4 8 12) 1 5 9 13) 2 6 10 14) 3 7 11 15) 0 5 10 15) 1 6 11 12) 2 7 8 13) 3 4 9 14)) := Lib.hid (qr_w16 RW.out _ _ _ _ (by omega) (by omega) (by omega) (by omega))
 replace OT : Hid (Ot gy W3 V15) := Lib.hid (OT.out.trans ho)
 clear hx ho
 replace RX : Hid (Six V15 gy (drounds 2 L)) := RX
 clear RW
 go_wp2_with fail
 rw [rounds_succ]
 have RW : Hid (W16 (drounds 2 L)) := Lib.hid (drounds_w16 WF.out 2)
 go_wp2_with fail
 refine (quarter16 _ gy (drounds 2 L) RX.out RW.out 0 4 8 12 (by omega) (by omega) (by omega) (by omega) (by omega) (by omega) (by omega) (by omega) (by omega) (by omega)).mono ?_
 rintro e V16 ⟨rfl, hx, ho⟩
 replace RX : Hid (Six V16 gy (qr (drounds 2 L) 0 4 8 12)) := Lib.hid hx
 replace RW : Hid (W16 (qr (drounds 2 L) 0 4 8 12)) := Lib.hid (qr_w16 RW.out _ _ _ _ (by omega) (by omega) (by omega) (by omega))
 replace OT : Hid (Ot gy W3 V16) := Lib.hid (OT.out.trans ho)
 clear hx ho
 go_wp2_with fail
 refine (quarter16 _ gy (qr (drounds 2 L) 0 4 8 12) RX.out RW.out 1 5 9 13 (by omega) (by omega) (by omega) (by omega) (by omega) (by omega) (by omega) (by omega) (by omega) (by omega)).mono ?_
 rintro e V17 ⟨rfl, hx, ho⟩
 replace RX : Hid (Six V17 gy (qr (qr (drounds 2 L) 0 4 8 12) 1 5 9 13)) := Lib.hid hx
 replace RW : Hid (W16 (qr (qr (drounds 2 L) 0 4 8 12) 1 5 9 13)) := Lib.hid (qr_w16 RW.out _ _ _ _ (by omega) (by omega) (by omega) (by omega))
 replace OT : Hid (Ot gy W3 V17) := Lib.hid (OT.out.trans ho)
 clear hx ho
 go_wp2_with fail
 refine (quarter16 _ gy (qr (qr (drounds 2 L) 0 4 8 12) 1 5 9 13) RX.out RW.out 2 6 10 14 (by omega) (by omega) (by omega) (by omega) (by omega) (by omega) (by omega) (by omega) (by omega) (by omega)).mono ?_
 rintro e V18 ⟨rfl, hx, ho⟩
 replace RX : Hid (Six V18 gy (qr (qr (qr (drounds 2 L) 0 4 8 12) 1 5 9 13) 2 6 10 14)) := Lib.hid hx
 replace RW : Hid (W16 (qr (qr (qr (drounds 2 L) 0 4 8 12) 1 5 9 13) 2 6 10 14)) := Lib.hid (qr_w16 RW.out _ _ _ _ (by omega) (by omega) (by omega) (by omega))
 replace OT : Hid (Ot gy W3 V18) := Lib.hid (OT.out.trans ho)
 clear hx ho
 go_wp2_with fail
 refine (quarter16 _ gy (qr (qr (qr (drounds 2 L) 0 4 8 12) 1 5 9 13) 2 6 10 14) RX.out RW.out 3 7 11 15 (by omega) (by omega) (by omega) (by omega) (by omega) (by omega) (by omega) (by omega) (by omega) (by omega)).mono ?_
 rintro e V19 ⟨rfl, hx, ho⟩
 replace RX : Hid (Six V19 gy (qr (qr (qr (qr (drounds 2 L) 0 4 8 12) 1 5 9 13) 2 6 10 14) 3 7 11 15)) := Lib.hid hx
 replace RW : Hid (W16 (qr (qr (qr (qr (drounds 2 L) 0 4 8 12) 1 5 9 13) 2 6 10 14) 3 7 11 15)) := Lib.hid (qr_w16 RW.out _ _ _ _ (by omega) (by omega) (by omega) (by omega))
 replace OT : Hid (Ot gy W3 V19) := Lib.hid (OT.out.trans ho)
 clear hx ho
 go_wp2_with fail
 refine (quarter16 _ gy (qr (qr (qr (qr (drounds 2 L) 0 4 8 12) 1 5 9 13) 2 6 10 14) 3 7 11 15) RX.out RW.out 0 5 10 15 (by omega) (by omega) (by omega) (by omega) (by omega) (by omega) (by omega) (by omega) (by omega) (by omega)).mono ?_
 rintro e V20 ⟨rfl, hx, ho⟩
 replace RX : Hid (Six V20 gy (qr (qr (qr (qr (qr (drounds 2 L) 0 4 8 12) 1 5 9 13) 2 6 10 14) 3 7 11 15) 0 5 10 15)) := Lib.hid hx
 replace RW : Hid (W16 (qr (qr (qr (qr (qr (drounds 2 L) 0 4 8 12) 1 5 9 13) 2 6 10 14) 3 7 11 15) 0 5 10 15)) := Lib.hid (qr_w16 RW.out _ _ _ _ (by omega) (by omega) (by omega) (by omega))
 replace OT : Hid (Ot gy W3 V20) := Lib.hid (OT.out.trans ho)
 clear hx ho
 go_wp2_with fail
 refine (quarter16 _ gy (qr (qr (qr (qr (qr (drounds 2 L) 0 4 8 12) 1 5 9 13) 2 6 10 14) 3 7 11 15) 0 5 10 15) RX.out RW.out 1 6 11 12 (by omega) (by omega) (by omega) (by omega) (by omega) (by omega) (by omega) (by omega) (by omega) (by omega)).mono ?_
 rintro e V21 ⟨rfl, hx, ho⟩
 replace RX : Hid (Six V21 gy (qr (qr (qr (qr (qr (qr (drounds 2 L) 0 4 8 12) 1 5 9 13) 2 6 10 14) 3 7 11 15) 0 5 10 15) 1 6 11 12)) := Lib.hid hx
 replace RW : Hid (W16 (qr (qr (qr (qr (qr (qr (drounds 2 L) 0 4 8 12) 1 5 9 13) 2 6 10 14) 3 7 11 15) 0 5 10 15) 1 6 11 12)) := Lib.hid (qr_w16 RW.out _ _ _ _ (by omega) (by omega) (by omega) (by omega))
 replace OT : Hid (Ot gy W3 V21) := Lib.hid (OT.out.trans ho)
 clear hx ho
 go_wp2_with fail
 refine (quarter16 _ gy (qr (qr (qr (qr (qr (qr (drounds 2 L) 0 4 8 12) 1 5 9 13) 2 6 10 14) 3 7 11 15) 0 5 10 15) 1 6 11 12) RX.out RW.out 2 7 8 13 (by omega) (by omega) (by omega) (by omega) (by omega) (by omega) (by omega) (by omega) (by omega) (by omega)).mono ?_
 rintro e V22 ⟨rfl, hx, ho⟩
 replace RX : Hid (Six V22 gy (qr (qr (qr (qr (qr (qr (qr (drounds 2 L) 0 4 8 12) 1 5 9 13) 2 6 10 14) 3 7 11 15) 0 5 10 15) 1 6 11 12) 2 7 8 13)) := Lib.hid hx
 replace RW : Hid (W16 (qr (qr (qr (qr (qr (qr (qr (drounds 2 L) 0 4 8 12) 1 5 9 13) 2 6 10 14) 3 7 11 15) 0 5 10 15) 1 6 11 12) 2 7 8 13)) := Lib.hid (qr_w16 RW.out _ _ _ _ (by omega) (by omega) (by omega) (by omega))
 replace OT : Hid (Ot gy W3 V22) := Lib.hid (OT.out.trans ho)
 clear hx ho
 go_wp2_with fail
 refine (quarter16 _ gy (qr (qr (qr (qr (qr (qr (qr (drounds 2 L) 0 4 8 12) 1 5 9 13) 2 6 10 14) 3 7 11 15) 0 5 10 15) 1 6 11 12) 2 7 8 13) RX.out RW.out 3 4 9 14 (by omega) (by omega) (by omega) (by omega) (by omega) (by omega) (by omega) (by omega) (by omega) (by omega)).mono ?_
 rintro e V23 ⟨rfl, hx, ho⟩
 replace RX : Hid (Six V23 gy (qr (qr (qr (qr (qr (qr (qr (qr (drounds 2 L) 0 4 8 12) 1 5 9 13) 2 6 10 14) 3 7 11 15) 0 5 10 15) 1 6 11 12) 2 7 8 13) 3 4 9 14)) := Lib.hid hx
 replace RW : Hid (W16 (qr (qr (qr (qr (qr (qr (qr (qr (drounds 2 L) 0 4 8 12) 1 5 9 13) 2 6 10 14) 3 7 11 15) 0 5 10 15) 1 6 11 12) 2 7 8 13) 3 4 9 14)) := Lib.hid (qr_w16 RW.out _ _ _ _ (by omega) (by omega) (by omega) (by omega))
 replace OT : Hid (Ot gy W3 V23) := Lib.hid (OT.out.trans ho)
 clear hx ho
 replace RX : Hid (Six V23 gy (drounds 3 L)) := RX
 clear RW
 go_wp2_with fail
 rw [rounds_succ]
 have RW : Hid (W16 (drounds 3 L)) := Lib.hid (drounds_w16 WF.out 3)
 go_wp2_with fail
 refine (quarter16 _ gy (drounds 3 L) RX.out RW.out 0 4 8 12 (by omega) (by omega) (by omega) (by omega) (by omega) (by omega) (by omega) (by omega) (by omega) (by omega)).mono ?_
 rintro e V24 ⟨rfl, hx, ho⟩
 replace RX : Hid (Six V24 gy (qr (drounds 3 L) 0 4 8 12)) := Lib.hid hx
 replace RW : Hid (W16 (qr (drounds 3 L) 0 4 8 12)) := Lib.hid (qr_w16 RW.out _ _ _ _ (by omega) (by omega) (by omega) (by omega))
 replace OT : Hid (Ot gy W3 V24) := Lib.hid (OT.out.trans ho)
 clear hx ho
 go_wp2_with fail
 refine (quarter16 _ gy (qr (drounds 3 L) 0 4 8 12) RX.out RW.out 1 5 9 13 (by omega) (by omega) (by omega) (by omega) (by omega) (by omega) (by omega) (by omega) (by omega) (by omega)).mono ?_
 rintro e V25 ⟨rfl, hx, ho⟩
 replace RX : Hid (Six V25 gy (qr (qr (drounds 3 L) 0 4 8 12) 1 5 9 13)) := Lib.hid hx
 replace RW : Hid (W16 (qr (qr (drounds 3 L) 0 4 8 12) 1 5 9 13)) := Lib.hid (qr_w16 RW.out _ _ _ _ (by omega) (by omega) (by omega) (by omega))
 replace OT : Hid (Ot gy W3 V25) := Lib.hid (OT.out.trans ho)
 clear hx ho
 go_wp2_with fail
 refine (quarter16 _ gy (qr (qr (drounds 3 L) 0 4 8 12) 1 5 9 13) RX.out RW.out 2 6 10 14 (by omega) (by omega) (by omega) (by omega) (by omega) (by omega) (by omega) (by omega) (by omega) (by omega)).mono ?_
 rintro e V26 ⟨rfl, hx, ho⟩
 replace RX : Hid (Six V26 gy (qr (qr (qr (drounds 3 L) 0 4 8 12) 1 5 9 13) 2 6 10 14)) := Lib.hid hx
 replace RW : Hid (W16 (qr (qr (qr (drounds 3 L) 0 4 8 12) 1 5 9 13) 2 6 10 14)) := Lib.hid (qr_w16 RW.out _ _ _ _ (by omega) (by omega) (by omega) (by omega))
 replace OT : Hid (Ot gy W3 V26) := Lib.hid (OT.out.trans ho)
 clear hx ho
 go_wp2_with fail
 refine (quarter16 _ gy (qr (qr (qr (drounds 3 L) 0 4 8 12) 1 5 9 13) 2 6 10 14) RX.out RW.out 3 7 11 15 (by omega) (by omega) (by omega) (by omega) (by omega) (by omega) (by omega) (by omega) (by omega) (by omega)).mono ?_
 rintro e V27 ⟨rfl, hx, ho⟩
 replace RX : Hid (Six V27 gy (qr (qr (qr (qr (drounds 3 L) 0 4 8 12) 1 5 9 13) 2 6 10 14) 3 7 11 15)) := Lib.hid hx
 replace RW : Hid (W16 (qr (qr (qr (qr (drounds 3 L) 0 4 8 12) 1 5 9 13) 2 6 10 14) 3 7 11 15)) := Lib.hid (qr_w16 RW.out _ _ _ _ (by omega) (by omega) (by omega) (by omega))
 replace OT : Hid (Ot gy W3 V27) := Lib.hid (OT.out.trans ho)
 clear hx ho
 go_wp2_with fail
 refine (quarter16 _ gy (qr (qr (qr (qr (drounds 3 L) 0 4 8 12) 1 5 9 13) 2 6 10 14) 3 7 11 15) RX.out RW.out 0 5 10 15 (by omega) (by omega) (by omega) (by omega) (by omega) (by omega) (by omega) (by omega) (by omega) (by omega)).mono ?_
 rintro e V28 ⟨rfl, hx, ho⟩
 replace RX : Hid (Six V28 gy (qr (qr (qr (qr (qr (drounds 3 L) 0 4 8 12) 1 5 9 13) 2 6 10 14) 3 7 11 15) 0 5 10 15)) := Lib.hid hx
 replace RW : Hid (W16 (qr (qr (qr (qr (qr (drounds 3 L) 0 4 8 12) 1 5 9 13) 2 6 10 14) 3 7 11 15) 0 5 10 15)) := Lib.hid (qr_w16 RW.out _ _ _ _ (by omega) (by omega) (by omega) (by omega))
 replace OT : Hid (Ot gy W3 V28) := Lib.hid (OT.out.trans ho)
 clear hx ho
 go_wp2_with fail
 refine (quarter16 _ gy (qr (qr (qr (qr (qr (drounds 3 L) 0 4 8 12) 1 5 9 13) 2 6 10 14) 3 7 11 15) 0 5 10 15) RX.out RW.out 1 6 11 12 (by omega) (by omega) (by omega) (by omega) (by omega) (by omega) (by omega) (by omega) (by omega) (by omega)).mono ?_
 rintro e V29 ⟨rfl, hx, ho⟩
 replace RX : Hid (Six V29 gy (qr (qr (qr (qr (qr (qr (drounds 3 L) 0 4 8 12) 1 5 9 13) 2 6 10 14) 3 7 11 15) 0 5 10 15) 1 6 11 12)) := Lib.hid hx
 replace RW : Hid (W16 (qr (qr (qr (qr (qr (qr (drounds 3 L) 0 4 8 12) 1 5 9 13) 2 6 10 14) 3 7 11 15) 0 5 10 15) 1 6 11 12)) := Lib.hid (qr_w16 RW.out _ _ _ _ (by omega) (by omega) (by omega) (by omega))
 replace OT : Hid (Ot gy W3 V29) := Lib.hid (OT.out.trans ho)
 clear hx ho
 go_wp2_with fail
 refine (quarter16 _ gy (qr (qr (qr (qr (qr (qr (drounds 3 L) 0 4 8 12) 1 5 9 13) 2 6 10 14) 3 7 11 15) 0 5 10 15) 1 6 11 12) RX.out RW.out 2 7 8 13 (by omega) (by omega) (by omega) (by omega) (by omega) (by omega) (by omega) (by omega) (by omega) (by omega)).mono ?_
 rintro e V30 ⟨rfl, hx, ho⟩
 replace RX : Hid (Six V30 gy (qr (qr (qr (qr (qr (qr (qr (drounds 3 L) 0 4 8 12) 1 5 9 13) 2 6 10 14) 3 7 11 15) 0 5 10 15) 1 6 11 12) 2 7 8 13)) := Lib.hid hx
 replace RW : Hid (W16 (qr (qr (qr (qr (qr (qr (qr (drounds 3 L) 0 4 8 12) 1 5 9 13) 2 6 10 14) 3 7 11 15) 0 5 10 15) 1 6 11 12) 2 7 8 13)) := Lib.hid (qr_w16 RW.out _ _ _ _ (by omega) (by omega) (by omega) (by omega))
 replace OT : Hid (Ot gy W3 V30) := Lib.hid (OT.out.trans ho)
 clear hx ho
 go_wp2_with fail
 refine (quarter16 _ gy (qr (qr (qr (qr (qr (qr (qr (drounds 3 L) 0 4 8 12) 1 5 9 13) 2 6 10 14) 3 7 11 15) 0 5 10 15) 1 6 11 12) 2 7 8 13) RX.out RW.out 3 4 9 14 (by omega) (by omega) (by omega) (by omega) (by omega) (by omega) (by omega) (by omega) (by omega) (by omega)).mono ?_
 rintro e V31 ⟨rfl, hx, ho⟩
 replace RX : Hid (Six V31 gy (qr (qr (qr (qr (qr (qr (qr (qr (drounds 3 L) 0 4 8 12) 1 5 9 13) 2 6 10 14) 3 7 11 15) 0 5 10 15) 1 6 11 12) 2 7 8 13) 3 4 9 14)) := Lib.hid hx
 replace RW : Hid (W16 (qr (qr (qr (qr (qr (qr (qr (qr (drounds 3 L) 0 4 8 12) 1 5 9 13) 2 6 10 14) 3 7 11 15) 0 5 10 15) 1 6 11 12) 2 7 8 13) 3 4 9 14)) := Lib.hid (qr_w16 RW.out _ _ _ _ (by omega) (by omega) (by omega) (by omega))
 replace OT : Hid (Ot gy W3 V31) := Lib.hid (OT.out.trans ho)
 clear hx ho
 replace RX : Hid (Six V31 gy (drounds 4 L)) := RX
 clear RW
 go_wp2_with fail
 rw [rounds_succ]
 have RW : Hid (W16 (drounds 4 L)) := Lib.hid (drounds_w16 WF.out 4)
 go_wp2_with fail
 refine (quarter16 _ gy (drounds 4 L) RX.out RW.out 0 4 8 12 (by omega) (by omega) (by omega) (by omega) (by omega) (by omega) (by omega) (by omega) (by omega) (by omega)).mono ?_
 rintro e V32 ⟨rfl, hx, ho⟩
 replace RX : Hid (Six V32 gy (qr (drounds 4 L) 0 4 8 12)) := Lib.hid hx
 replace RW : Hid (W16 (qr (drounds 4 L) 0 4 8 12)) := Lib.hid (qr_w16 RW.out _ _ _ _ (by omega) (by omega) (by omega) (by omega))
 replace OT : Hid (Ot gy W3 V32) := Lib.hid (OT.out.trans ho)
 clear hx ho
 go_wp2_with fail
 refine (quarter16 _ gy (qr (drounds 4 L) 0 4 8 12) RX.out RW.out 1 5 9 13 (by omega) (by omega) (by omega) (by omega) (by omega) (by omega) (by omega) (by omega) (by omega) (by omega)).mono ?_
 rintro e V33 ⟨rfl, hx, ho⟩
 replace RX : Hid (Six V33 gy (qr (qr (drounds 4 L) 0 4 8 12) 1 5 9 13)) := Lib.hid hx
 replace RW : Hid (W16 (qr (qr (drounds 4 L) 0 4 8 12) 1 5 9 13)) := Lib.hid (qr_w16 RW.out _ _ _ _ (by omega) (by omega) (by omega) (by omega))
 replace OT : Hid (Ot gy W3 V33) := Lib.hid (OT.out.trans ho)
 clear hx ho
 go_wp2_with fail
 refine (quarter16 _ gy (qr (qr (drounds 4 L) 0 4 8 12) 1 5 9 13) RX.out RW.out 2 6 10 14 (by omega) (by omega) (by omega) (by omega) (by omega) (by omega) (by omega) (by omega) (by omega) (by omega)).mono ?_
 rintro e V34 ⟨rfl, hx, ho⟩
 replace RX : Hid (Six V34 gy (qr (qr (qr (drounds 4 L) 0 4 8 12) 1 5 9 13) 2 6 10 14)) := Lib.hid hx
 replace RW : Hid (W16 (qr (qr (qr (drounds 4 L) 0 4 8 12) 1 5 9 13) 2 6 10 14)) := Lib.hid (qr_w16 RW.out _ _ _ _ (by omega) (by omega) (by omega) (by omega))
 replace OT : Hid (Ot gy W3 V34) := Lib.hid (OT.out.trans ho)
 clear hx ho
 go_wp2_with fail
 refine (quarter16 _ gy (qr (qr (qr (drounds 4 L) 0 4 8 12) 1 5 9 13) 2 6 10 14) RX.out RW.out 3 7 11 15 (by omega) (by omega) (by omega) (by omega) (by omega) (by omega) (by omega) (by omega) (by omega) (by omega)).mono ?_
 rintro e V35 ⟨rfl, hx, ho⟩
 replace RX : Hid (Six V35 gy (qr (qr (qr (qr (drounds 4 L) 0 4 8 12) 1 5 9 13) 2 6 10 14) 3 7 11 15)) := Lib.hid hx
 replace RW : Hid (W16 (qr (qr (qr (qr (drounds 4 L) 0 4 8 12) 1 5 9 13) 2 6 10 14) 3 7 11 15)) := Lib.hid (qr_w16 RW.out _ _ _ _ (by omega) (by omega) (by omega) (by omega))
 replace OT : Hid (Ot gy W3 V35) := Lib.hid (OT.out.trans ho)
 clear hx ho
 go_wp2_with fail
 refine (quarter16 _ gy (qr (qr (qr (qr (drounds 4 L) 0 4 8 12) 1 5 9 13) 2 6 10 14) 3 7 11 15) RX.out RW.out 0 5 10 15 (by omega) (by omega) (by omega) (by omega) (by omega) (by omega) (by omega) (by omega) (by omega) (by omega)).mono ?_
 rintro e V36 ⟨rfl, hx, ho⟩
 replace RX : Hid (Six V36 gy (qr (qr (qr (qr (qr (drounds 4 L) 0 4 8 12) 1 5 9 13) 2 6 10 14) 3 7 11 15) 0 5 10 15)) := Lib.hid hx
 replace RW : Hid (W16 (qr (qr (qr (qr (qr (drounds 4 L) 0 4 8 12) 1 5 9 13) 2 6 10 14) 3 7 11 15) 0 5 10 15)) := Lib.hid (qr_w16 RW.out _ _ _ _ (by omega) (by omega) (by omega) (by omega))
 replace OT : Hid (Ot gy W3 V36) := Lib.hid (OT.out.trans ho)
 clear hx ho
 go_wp2_with fail
 refine (quarter16 _ gy (qr (qr (qr (qr (qr (drounds 4 L) 0 4 8 12) 1 5 9 13) 2 6 10 14) 3 7 11 15) 0 5 10 15) RX.out RW.out 1 6 11 12 (by omega) (by omega) (by omega) (by omega) (by omega) (by omega) (by omega) (by omega) (by omega) (by omega)).mono ?_
 rintro e V37 ⟨rfl, hx, ho⟩
 replace RX : Hid (Six V37 gy (qr (qr (qr (qr (qr (qr (drounds 4 L) 0 4 8 12) 1 5 9 13) 2 6 10 14) 3 7 11 15) 0 5 10 15) 1 6 11 12)) := Lib.hid hx
 replace RW : Hid (W16 (qr (qr (qr (qr (qr (qr (drounds 4 L) 0 4 8 12) 1 5 9 13) 2 6 10 14) 3 7 11 15) 0 5 10 15) 1 6 11 12)) := Lib.hid (qr_w16 RW.out _ _ _ _ (by omega) (by omega) (by omega) (by omega))
 replace OT : Hid (Ot gy W3 V37) := Lib.hid (OT.out.trans ho)
 clear hx ho
 go_wp2_with fail
 refine (quarter16 _ gy (qr (qr (qr (qr (qr (qr (drounds 4 L) 0 4 8 12) 1 5 9 13) 2 6 10 14) 3 7 11 15) 0 5 10 15) 1 6 11 12) RX.out RW.out 2 7 8 13 (by omega) (by omega) (by omega) (by omega) (by omega) (by omega) (by omega) (by omega) (by omega) (by omega)).mono ?_
 rintro e V38 ⟨rfl, hx, ho⟩
 replace RX : Hid (Six V38 gy (qr (qr (qr (qr (qr (qr (qr (drounds 4 L) 0 4 8 12) 1 5 9 13) 2 6 10 14) 3 7 11 15) 0 5 10 15) 1 6 11 12) 2 7 8 13)) := Lib.hid hx
 replace RW : Hid (W16 (qr (qr (qr (qr (qr (qr (qr (drounds 4 L) 0 4 8 12) 1 5 9 13) 2 6 10 14) 3 7 11 15) 0 5 10 15) 1 6 11 12) 2 7 8 13)) := Lib.hid (qr_w16 RW.out _ _ _ _ (by omega) (by omega) (by omega) (by omega))
 replace OT : Hid (Ot gy W3 V38) := Lib.hid (OT.out.trans ho)
 clear hx ho
 go_wp2_with fail
 refine (quarter16 _ gy (qr (qr (qr (qr (qr (qr (qr (drounds 4 L) 0 4 8 12) 1 5 9 13) 2 6 10 14) 3 7 11 15) 0 5 10 15) 1 6 11 12) 2 7 8 13) RX.out RW.out 3 4 9 14 (by omega) (by omega) (by omega) (by omega) (by omega) (by omega) (by omega) (by omega) (by omega) (by omega)).mono ?_
 rintro e V39 ⟨rfl, hx, ho⟩
 replace RX : Hid (Six V39 gy (qr (qr (qr (qr (qr (qr (qr (qr (drounds 4 L) 0 4 8 12) 1 5 9 13) 2 6 10 14) 3 7 11 15) 0 5 10 15) 1 6 11 12) 2 7 8 13) 3 4 9 14)) := Lib.hid hx
 replace RW : Hid (W16 (qr (qr (qr (qr (qr (qr (qr (qr (drounds 4 L) 0 4 8 12) 1 5 9 13) 2 6 10 14) 3 7 11 15) 0 5 10 15) 1 6 11 12) 2 7 8 13) 3 4 9 14)) := Lib.hid (qr_w16 RW.out _ _ _ _ (by omega) (by omega) (by omega) (by omega))
 replace OT : Hid (Ot gy W3 V39) := Lib.hid (OT.out.trans ho)
 clear hx ho
 replace RX : Hid (Six V39 gy (drounds 5 L)) := RX
 clear RW
 go_wp2_with fail
 rw [rounds_succ]
 have RW : Hid (W16 (drounds 5 L)) := Lib.hid (drounds_w16 WF.out 5)
 go_wp2_with fail
 refine (quarter16 _ gy (drounds 5 L) RX.out RW.out 0 4 8 12 (by omega) (by omega) (by omega) (by omega) (by omega) (by omega) (by omega) (by omega) (by omega) (by omega)).mono ?_
 rintro e V40 ⟨rfl, hx, ho⟩
 replace RX : Hid (Six V40 gy (qr (drounds 5 L) 0 4 8 12)) := Lib.hid hx
 replace RW : Hid (W16 (qr (drounds 5 L) 0 4 8 12)) := Lib.hid (qr_w16 RW.out _ _ _ _ (by omega) (by omega) (by omega) (by omega))
 replace OT : Hid (Ot gy W3 V40) := Lib.hid (OT.out.trans ho)
 clear hx ho
 go_wp2_with fail
 refine (quarter16 _ gy (qr (drounds 5 L) 0 4 8 12) RX.out RW.out 1 5 9 13 (by omega) (by omega) (by omega) (by omega) (by omega) (by omega) (by omega) (by omega) (by omega) (by omega)).mono ?_
 rintro e V41 ⟨rfl, hx, ho⟩
 replace RX : Hid (Six V41 gy (qr (qr (drounds 5 L) 0 4 8 12) 1 5 9 13)) := Lib.hid hx
 replace RW : Hid (W16 (qr (qr (drounds 5 L) 0 4 8 12) 1 5 9 13)) := Lib.hid (qr_w16 RW.out _ _ _ _ (by omega) (by omega) (by omega) (by omega))
 replace OT : Hid (Ot gy W3 V41) := Lib.hid (OT.out.trans ho)
 clear hx ho
 go_wp2_with fail
 refine (quarter16 _ gy (qr (qr (drounds 5 L) 0 4 8 12) 1 5 9 13) RX.out RW.out 2 6 10 14 (by omega) (by omega) (by omega) (by omega) (by omega) (by omega) (by omega) (by omega) (by omega) (by omega)).mono ?_
 rintro e V42 ⟨rfl, hx, ho⟩
 replace RX : Hid (Six V42 gy (qr (qr (qr (drounds 5 L) 0 4 8 12) 1 5 9 13) 2 6 10 14)) := Lib.hid hx
 replace RW : Hid (W16 (qr (qr (qr (drounds 5 L) 0 4 8 12) 1 5 9 13) 2 6 10 14)) := Lib.hid (qr_w16 RW.out _ _ _ _ (by omega) (by omega) (by omega) (by omega))
 replace OT : Hid (Ot gy W3 V42) := Lib.hid (OT.out.trans ho)
 clear hx ho
 go_wp2_with fail
 refine (quarter16 _ gy (qr (qr (qr (drounds 5 L) 0 4 8 12) 1 5 9 13) 2 6 10 14) RX.out RW.out 3 7 11 15 (by omega) (by omega) (by omega) (by omega) (by omega) (by omega) (by omega) (by omega) (by omega) (by omega)).mono ?_
 rintro e V43 ⟨rfl, hx, ho⟩
 replace RX : Hid (Six V43 gy (qr (qr (qr (qr (drounds 5 L) 0 4 8 12) 1 5 9 13) 2 6 10 14) 3 7 11 15)) := Lib.hid hx
 replace RW : Hid (W16 (qr (qr (qr (qr (drounds 5 L) 0 4 8 12) 1 5 9 13) 2 6 10 14) 3 7 11 15)) := Lib.hid (qr_w16 RW.out _ _ _ _ (by omega) (by omega) (by omega) (by omega))
 replace OT : Hid (Ot gy W3 V43) := Lib.hid (OT.out.trans ho)
 clear hx ho
 go_wp2_with fail
 refine (quarter16 _ gy (qr (qr (qr (qr (drounds 5 L) 0 4 8 12) 1 5 9 13) 2 6 10 14) 3 7 11 15) RX.out RW.out 0 5 10 15 (by omega) (by omega) (by omega) (by omega) (by omega) (by omega) (by omega) (by omega) (by omega) (by omega)).mono ?_
 rintro e V44 ⟨rfl, hx, ho⟩
 replace RX : Hid (Six V44 gy (qr (qr (qr (qr (qr (drounds 5 L) 0 4 8 12) 1 5 9 13) 2 6 10 14) 3 7 11 15) 0 5 10 15)) := Lib.hid hx
 replace RW : Hid (W16 (qr (qr (qr (qr (qr (drounds 5 L) 0 4 8 12) 1 5 9 13) 2 6 10 14) 3 7 11 15) 0 5 10 15)) := Lib.hid (qr_w16 RW.out _ _ _ _ (by omega) (by omega) (by omega) (by omega))
 replace OT : Hid (Ot gy W3 V44) := Lib.hid (OT.out.trans ho)
 clear hx ho
 go_wp2_with fail
 refine (quarter16 _ gy (qr (qr (qr (qr (qr (drounds 5 L) 0 4 8 12) 1 5 9 13) 2 6 10 14) 3 7 11 15) 0 5 10 15) RX.out RW.out 1 6 11 12 (by omega) (by omega) (by omega) (by omega) (by omega) (by omega) (by omega) (by omega) (by omega) (by omega)).mono ?_
 rintro e V45 ⟨rfl, hx, ho⟩
 replace RX : Hid (Six V45 gy (qr (qr (qr (qr (qr (qr (drounds 5 L) 0 4 8 12) 1 5 9 13) 2 6 10 14) 3 7 11 15) 0 5 10 15) 1 6 11 12)) := Lib.hid hx
 replace RW : Hid (W16 (qr (qr (qr (qr (qr (qr (drounds 5 L) 0 4 8 12) 1 5 9 13) 2 6 10 14) 3 7 11 15) 0 5 10 15) 1 6 11 12)) := Lib.hid (qr_w16 RW.out _ _ _ _ (by omega) (by omega) (by omega) (by omega))
 replace OT : Hid (Ot gy W3 V45) := Lib.hid (OT.out.trans ho)
 clear hx ho
 go_wp2_with fail
 refine (quarter16 _ gy (qr (qr (qr (qr (qr (qr (drounds 5 L) 0 4 8 12) 1 5 9 13) 2 6 10 14) 3 7 11 15) 0 5 10 15) 1 6 11 12) RX.out RW.out 2 7 8 13 (by omega) (by omega) (by omega) (by omega) (by omega) (by omega) (by omega) (by omega) (by omega) (by omega)).mono ?_
 rintro e V46 ⟨rfl, hx, ho⟩
 replace RX : Hid (Six V46 gy (qr (qr (qr (qr (qr (qr (qr (drounds 5 L) 0 4 8 12) 1 5 9 13) 2 6 10 14) 3 7 11 15) 0 5 10 15) 1 6 11 12) 2 7 8 13)) := Lib.hid hx
 replace RW : Hid (W16 (qr (qr (qr (qr (qr (qr (qr (drounds 5 L) 0 4 8 12) 1 5 9 13) 2 6 10 14) 3 7 11 15) 0 5 10 15) 1 6 11 12) 2 7 8 13)) := Lib.hid (qr_w16 RW.out _ _ _ _ (by omega) (by omega) (by omega) (by omega))
 replace OT : Hid (Ot gy W3 V46) := Lib.hid (OT.out.trans ho)
 clear hx ho
 go_wp2_with fail
 refine (quarter16 _ gy (qr (qr (qr (qr (qr (qr (qr (drounds 5 L) 0 4 8 12) 1 5 9 13) 2 6 10 14) 3 7 11 15) 0 5 10 15) 1 6 11 12) 2 7 8 13) RX.out RW.out 3 4 9 14 (by omega) (by omega) (by omega) (by omega) (by omega) (by omega) (by omega) (by omega) (by omega) (by omega)).mono ?_
 rintro e V47 ⟨rfl, hx, ho⟩
 replace RX : Hid (Six V47 gy (qr (qr (qr (qr (qr (qr (qr (qr (drounds 5 L) 0 4 8 12) 1 5 9 13) 2 6 10 14) 3 7 11 15) 0 5 10 15) 1 6 11 12) 2 7 8 13) 3 4 9 14)) := Lib.hid hx
 replace RW : Hid (W16 (qr (qr (qr (qr (qr (qr (qr (qr (drounds 5 L) 0 4 8 12) 1 5 9 13) 2 6 10 14) 3 7 11 15) 0 5 10 15) 1 6 11 12) 2 7 8 13) 3 4 9 14)) := Lib.hid (qr_w16 RW.out _ _ _ _ (by omega) (by omega) (by omega) (by omega))
 replace OT : Hid (Ot gy W3 V47) := Lib.hid (OT.out.trans ho)
 clear hx ho
 replace RX : Hid (Six V47 gy (drounds 6 L)) := RX
 clear RW
 go_wp2_with fail
 rw [rounds_succ]
 have RW : Hid (W16 (drounds 6 L)) := Lib.hid (drounds_w16 WF.out 6)
 go_wp2_with fail
 refine (quarter16 _ gy (drounds 6 L) RX.out RW.out 0 4 8 12 (by omega) (by omega) (by omega) (by omega) (by omega) (by omega) (by omega) (by omega) (by omega) (by omega)).mono ?_
 rintro e V48 ⟨rfl, hx, ho⟩
 replace RX : Hid (Six V48 gy (qr (drounds 6 L) 0 4 8 12)) := Lib.hid hx
 replace RW : Hid (W16 (qr (drounds 6 L) 0 4 8 12)) := Lib.hid (qr_w16 RW.out _ _ _ _ (by omega) (by omega) (by omega) (by omega))
 replace OT : Hid (Ot gy W3 V48) := Lib.hid (OT.out.trans ho)
 clear hx ho
 go_wp2_with fail
 refine (quarter16 _ gy (qr (drounds 6 L) 0 4 8 12) RX.out RW.out 1 5 9 13 (by omega) (by omega) (by omega) (by omega) (by omega) (by omega) (by omega) (by omega) (by omega) (by omega)).mono ?_
 rintro e V49 ⟨rfl, hx, ho⟩
 replace RX : Hid (Six V49 gy (qr (qr (drounds 6 L) 0 4 8 12) 1 5 9 13)) := Lib.hid hx
 replace RW : Hid (W16 (qr (qr (drounds 6 L) 0 4 8 12) 1 5 9 13)) := Lib.hid (qr_w16 RW.out _ _ _ _ (by omega) (by omega) (by omega) (by omega))
 replace OT : Hid (Ot gy W3 V49) := Lib.hid (OT.out.trans ho)
 clear hx ho
 go_wp2_with fail
 refine (quarter16 _ gy (qr (qr (drounds 6 L) 0 4 8 12) 1 5 9 13) RX.out RW.out 2 6 10 14 (by omega) (by omega) (by omega) (by omega) (by omega) (by omega) (by omega) (by omega) (by omega) (by omega)).mono ?_
 rintro e V50 ⟨rfl, hx, ho⟩
 replace RX : Hid (Six V50 gy (qr (qr (qr (drounds 6 L) 0 4 8 12) 1 5 9 13) 2 6 10 14)) := Lib.hid hx
 replace RW : Hid (W16 (qr (qr (qr (drounds 6 L) 0 4 8 12) 1 5 9 13) 2 6 10 14)) := Lib.hid (qr_w16 RW.out _ _ _ _ (by omega) (by omega) (by omega) (by omega))
 replace OT : Hid (Ot gy W3 V50) := Lib.hid (OT.out.trans ho)
 clear hx ho
 go_wp2_with fail
 refine (quarter16 _ gy (qr (qr (qr (drounds 6 L) 0 4 8 12) 1 5 9 13) 2 6 10 14) RX.out RW.out 3 7 11 15 (by omega) (by omega) (by omega) (by omega) (by omega) (by omega) (by omega) (by omega) (by omega) (by omega)).mono ?_
 rintro e V51 ⟨rfl, hx, ho⟩
 replace RX : Hid (Six V51 gy (qr (qr (qr (qr (drounds 6 L) 0 4 8 12) 1 5 9 13) 2 6 10 14) 3 7 11 15)) := Lib.hid hx
 replace RW : Hid (W16 (qr (qr (qr (qr (drounds 6 L) 0 4 8 12) 1 5 9 13) 2 6 10 14) 3 7 11 15)) := Lib.hid (qr_w16 RW.out _ _ _ _ (by omega) (by omega) (by omega) (by omega))
 replace OT : Hid (Ot gy W3 V51) := Lib.hid (OT.out.trans ho)
 clear hx ho
 go_wp2_with fail
 refine (quarter16 _ gy (qr (qr (qr (qr (drounds 6 L) 0 4 8 12) 1 5 9 13) 2 6 10 14) 3 7 11 15) RX.out RW.out 0 5 10 15 (by omega) (by omega) (by omega) (by omega) (by omega) (by omega) (by omega) (by omega) (by omega) (by omega)).mono ?_
 rintro e V52 ⟨rfl, hx, ho⟩
 replace RX : Hid (Six V52 gy (qr (qr (qr (qr (qr (drounds 6 L) 0 4 8 12) 1 5 9 13) 2 6 10 14) 3 7 11 15) 0 5 10 15)) := Lib.hid hx
 replace RW : Hid (W16 (qr (qr (qr (qr (qr (drounds 6 L) 0 4 8 12) 1 5 9 13) 2 6 10 14) 3 7 11 15) 0 5 10 15)) := Lib.hid (qr_w16 RW.out _ _ _ _ (by omega) (by omega) (by omega) (by omega))
 replace OT : Hid (Ot gy W3 V52) := Lib.hid (OT.out.trans ho)
 clear hx ho
 go_wp2_with fail
 refine (quarter16 _ gy (qr (qr (qr (qr (qr (drounds 6 L) 0 4 8 12) 1 5 9 13) 2 6 10 14) 3 7 11 15) 0 5 10 15) RX.out RW.out 1 6 11 12 (by omega) (by omega) (by omega) (by omega) (by omega) (by omega) (by omega) (by omega) (by omega) (by omega)).mono ?_
 rintro e V53 ⟨rfl, hx, ho⟩
 replace RX : Hid (Six V53 gy (qr (qr (qr (qr (qr (qr (drounds 6 L) 0 4 8 12) 1 5 9 13) 2 6 10 14) 3 7 11 15) 0 5 10 15) 1 6 11 12)) := Lib.hid hx
 replace RW : Hid (W16 (qr (qr (qr (qr (qr (qr (drounds 6 L) 0 4 8 12) 1 5 9 13) 2 6 10 14) 3 7 11 15) 0 5 10 15) 1 6 11 12)) := Lib.hid (qr_w16 RW.out _ _ _ _ (by omega) (by omega) (by omega) (by omega))
 replace OT : Hid (Ot gy W3 V53) := Lib.hid (OT.out.trans ho)
 clear hx ho
 go_wp2_with fail
 refine (quarter16 _ gy (qr (qr (qr (qr (qr (qr (drounds 6 L) 0 4 8 12) 1 5 9 13) 2 6 10 14) 3 7 11 15) 0 5 10 15) 1 6 11 12) RX.out RW.out 2 7 8 13 (by omega) (by omega) (by omega) (by omega) (by omega) (by omega) (by omega) (by omega) (by omega) (by omega)).mono ?_
 rintro e V54 ⟨rfl, hx, ho⟩
 replace RX : Hid (Six V54 gy (qr (qr (qr (qr (qr (qr (qr (drounds 6 L) 0 4 8 12) 1 5 9 13) 2 6 10 14) 3 7 11 15) 0 5 10 15) 1 6 11 12) 2 7 8 13)) := Lib.hid hx
 replace RW : Hid (W16 (qr (qr (qr (qr (qr (qr (qr (drounds 6 L) 0 4 8 12) 1 5 9 13) 2 6 10 14) 3 7 11 15) 0 5 10 15) 1 6 11 12) 2 7 8 13)) := Lib.hid (qr_w16 RW.out _ _ _ _ (by omega) (by omega) (by omega) (by omega))
 replace OT : Hid (Ot gy W3 V54) := Lib.hid (OT.out.trans ho)
 clear hx ho
 go_wp2_with fail
 refine (quarter16 _ gy (qr (qr (qr (qr (qr (qr (qr (drounds 6 L) 0 4 8 12) 1 5 9 13) 2 6 10 14) 3 7 11 15) 0 5 10 15) 1 6 11 12) 2 7 8 13) RX.out RW.out 3 4 9 14 (by omega) (by omega) (by omega) (by omega) (by omega) (by omega) (by omega) (by omega) (by omega) (by omega)).mono ?_
 rintro e V55 ⟨rfl, hx, ho⟩
 replace RX : Hid (Six V55 gy (qr (qr (qr (qr (qr (qr (qr (qr (drounds 6 L) 0 4 8 12) 1 5 9 13) 2 6 10 14) 3 7 11 15) 0 5 10 15) 1 6 11 12) 2 7 8 13) 3 4 9 14)) := Lib.hid hx
 replace RW : Hid (W16 (qr (qr (qr (qr (qr (qr (qr (qr (drounds 6 L) 0 4 8 12) 1 5 9 13) 2 6 10 14) 3 7 11 15) 0 5 10 15) 1 6 11 12) 2 7 8 13) 3 4 9 14)) := Lib.hid (qr_w16 RW.out _ _ _ _ (by omega) (by omega) (by omega) (by omega))
 replace OT : Hid (Ot gy W3 V55) := Lib.hid (OT.out.trans ho)
 clear hx ho
 replace RX : Hid (Six V55 gy (drounds 7 L)) := RX
 clear RW
 go_wp2_with fail
 rw [rounds_succ]
 have RW : Hid (W16 (drounds 7 L)) := Lib.hid (drounds_w16 WF.out 7)
 go_wp2_with fail
 refine (quarter16 _ gy (drounds 7 L) RX.out RW.out 0 4 8 12 (by omega) (by omega) (by omega) (by omega) (by omega) (by omega) (by omega) (by omega) (by omega) (by omega)).mono ?_
 rintro e V56 ⟨rfl, hx, ho⟩
 replace RX : Hid (Six V56 gy (qr (drounds 7 L) 0 4 8 12)) := Lib.hid hx
 replace RW : Hid (W16 (qr (drounds 7 L) 0 4 8 12)) := Lib.hid (qr_w16 RW.out _ _ _ _ (by omega) (by omega) (by omega) (by omega))
 replace OT : Hid (Ot gy W3 V56) := Lib.hid (OT.out.trans ho)
 clear hx ho
 go_wp2_with fail
 refine (quarter16 _ gy (qr (drounds 7 L) 0 4 8 12) RX.out RW.out 1 5 9 13 (by omega) (by omega) (by omega) (by omega) (by omega) (by omega) (by omega) (by omega) (by omega) (by omega)).mono ?_
 rintro e V57 ⟨rfl, hx, ho⟩
 replace RX : Hid (Six V57 gy (qr (qr (drounds 7 L) 0 4 8 12) 1 5 9 13)) := Lib.hid hx
 replace RW : Hid (W16 (qr (qr (drounds 7 L) 0 4 8 12) 1 5 9 13)) := Lib.hid (qr_w16 RW.out _ _ _ _ (by omega) (by omega) (by omega) (by omega))
 replace OT : Hid (Ot gy W3 V57) := Lib.hid (OT.out.trans ho)
 clear hx ho
 go_wp2_with fail
 refine (quarter16 _ gy (qr (qr (drounds 7 L) 0 4 8 12) 1 5 9 13) RX.out RW.out 2 6 10 14 (by omega) (by omega) (by omega) (by omega) (by omega) (by omega) (by omega) (by omega) (by omega) (by omega)).mono ?_
 rintro e V58 ⟨rfl, hx, ho⟩
 replace RX : Hid (Six V58 gy (qr (qr (qr (drounds 7 L) 0 4 8 12) 1 5 9 13) 2 6 10 14)) := Lib.hid hx
 replace RW : Hid (W16 (qr (qr (qr (drounds 7 L) 0 4 8 12) 1 5 9 13) 2 6 10 14)) := Lib.hid (qr_w16 RW.out _ _ _ _ (by omega) (by omega) (by omega) (by omega))
 replace OT : Hid (Ot gy W3 V58) := Lib.hid (OT.out.trans ho)
 clear hx ho
 go_wp2_with fail
 refine (quarter16 _ gy (qr (qr (qr (drounds 7 L) 0 4 8 12) 1 5 9 13) 2 6 10 14) RX.out RW.out 3 7 11 15 (by omega) (by omega) (by omega) (by omega) (by omega) (by omega) (by omega) (by omega) (by omega) (by omega)).mono ?_
 rintro e V59 ⟨rfl, hx, ho⟩
 replace RX : Hid (Six V59 gy (qr (qr (qr (qr (drounds 7 L) 0 4 8 12) 1 5 9 13) 2 6 10 14) 3 7 11 15)) := Lib.hid hx
 replace RW : Hid (W16 (qr (qr (qr (qr (drounds 7 L) 0 4 8 12) 1 5 9 13) 2 6 10 14) 3 7 11 15)) := Lib.hid (qr_w16 RW.out _ _ _ _ (by omega) (by omega) (by omega) (by omega))
 replace OT : Hid (Ot gy W3 V59) := Lib.hid (OT.out.trans ho)
 clear hx ho
 go_wp2_with fail
 refine (quarter16 _ gy (qr (qr (qr (qr (drounds 7 L) 0 4 8 12) 1 5 9 13) 2 6 10 14) 3 7 11 15) RX.out RW.out 0 5 10 15 (by omega) (by omega) (by omega) (by omega) (by omega) (by omega) (by omega) (by omega) (by omega) (by omega)).mono ?_
 rintro e V60 ⟨rfl, hx, ho⟩
 replace RX : Hid (Six V60 gy (qr (qr (qr (qr (qr (drounds 7 L) 0 4 8 12) 1 5 9 13) 2 6 10 14) 3 7 11 15) 0 5 10 15)) := Lib.hid hx
 replace RW : Hid (W16 (qr (qr (qr (qr (qr (drounds 7 L) 0 4 8 12) 1 5 9 13) 2 6 10 14) 3 7 11 15) 0 5 10 15)) := Lib.hid (qr_w16 RW.out _ _ _ _ (by omega) (by omega) (by omega) (by omega))
 replace OT : Hid (Ot gy W3 V60) := Lib.hid (OT.out.trans ho)
 clear hx ho
 go_wp2_with fail
 refine (quarter16 _ gy (qr (qr (qr (qr (qr (drounds 7 L) 0 4 8 12) 1 5 9 13) 2 6 10 14) 3 7 11 15) 0 5 10 15) RX.out RW.out 1 6 11 12 (by omega) (by omega) (by omega) (by omega) (by omega) (by omega) (by omega) (by omega) (by omega) (by omega)).mono ?_
 rintro e V61 ⟨rfl, hx, ho⟩
 replace RX : Hid (Six V61 gy (qr (qr (qr (qr (qr (qr (drounds 7 L) 0 4 8 12) 1 5 9 13) 2 6 10 14) 3 7 11 15) 0 5 10 15) 1 6 11 12)) := Lib.hid hx
 replace RW : Hid (W16 (qr (qr (qr (qr (qr (qr (drounds 7 L) 0 4 8 12) 1 5 9 13) 2 6 10 14) 3 7 11 15) 0 5 10 15) 1 6 11 12)) := Lib.hid (qr_w16 RW.out _ _ _ _ (by omega) (by omega) (by omega) (by omega))
 replace OT : Hid (Ot gy W3 V61) := Lib.hid (OT.out.trans ho)
 clear hx ho
 go_wp2_with fail
 refine (quarter16 _ gy (qr (qr (qr (qr (qr (qr (drounds 7 L) 0 4 8 12) 1 5 9 13) 2 6 10 14) 3 7 11 15) 0 5 10 15) 1 6 11 12) RX.out RW.out 2 7 8 13 (by omega) (by omega) (by omega) (by omega) (by omega) (by omega) (by omega) (by omega) (by omega) (by omega)).mono ?_
 rintro e V62 ⟨rfl, hx, ho⟩
 replace RX : Hid (Six V62 gy (qr (qr (qr (qr (qr (qr (qr (drounds 7 L) 0 4 8 12) 1 5 9 13) 2 6 10 14) 3 7 11 15) 0 5 10 15) 1 6 11 12) 2 7 8 13)) := Lib.hid hx
 replace RW : Hid (W16 (qr (qr (qr (qr (qr (qr (qr (drounds 7 L) 0 4 8 12) 1 5 9 13) 2 6 10 14) 3 7 11 15) 0 5 10 15) 1 6 11 12) 2 7 8 13)) := Lib.hid (qr_w16 RW.out _ _ _ _ (by omega) (by omega) (by omega) (by omega))
 replace OT : Hid (Ot gy W3 V62) := Lib.hid (OT.out.trans ho)
 clear hx ho
 go_wp2_with fail
 refine (quarter16 _ gy (qr (qr (qr (qr (qr (qr (qr (drounds 7 L) 0 4 8 12) 1 5 9 13) 2 6 10 14) 3 7 11 15) 0 5 10 15) 1 6 11 12) 2 7 8 13) RX.out RW.out 3 4 9 14 (by omega) (by omega) (by omega) (by omega) (by omega) (by omega) (by omega) (by omega) (by omega) (by omega)).mono ?_
 rintro e V63 ⟨rfl, hx, ho⟩
 replace RX : Hid (Six V63 gy (qr (qr (qr (qr (qr (qr (qr (qr (drounds 7 L) 0 4 8 12) 1 5 9 13) 2 6 10 14) 3 7 11 15) 0 5 10 15) 1 6 11 12) 2 7 8 13) 3 4 9 14)) := Lib.hid hx
 replace RW : Hid (W16 (qr (qr (qr (qr (qr (qr (qr (qr (drounds 7 L) 0 4 8 12) 1 5 9 13) 2 6 10 14) 3 7 11 15) 0 5 10 15) 1 6 11 12) 2 7 8 13) 3 4 9 14)) := Lib.hid (qr_w16 RW.out _ _ _ _ (by omega) (by omega) (by omega) (by omega))
 replace OT : Hid (Ot gy W3 V63) := Lib.hid (OT.out.trans ho)
 clear hx ho
 replace RX : Hid (Six V63 gy (drounds 8 L)) := RX
 clear RW
 go_wp2_with fail
 rw [rounds_succ]
 have RW : Hid (W16 (drounds 8 L)) := Lib.hid (drounds_w16 WF.out 8)
 go_wp2_with fail
 refine (quarter16 _ gy (drounds 8 L) RX.out RW.out 0 4 8 12 (by omega) (by omega) (by omega) (by omega) (by omega) (by omega) (by omega) (by omega) (by omega) (by omega)).mono ?_
 rintro e V64 ⟨rfl, hx, ho⟩
 replace RX : Hid (Six V64 gy (qr (drounds 8 L) 0 4 8 12)) := Lib.hid hx
 replace RW : Hid (W16 (qr (drounds 8 L) 0 4 8 12)) := Lib.hid (qr_w16 RW.out _ _ _ _ (by omega) (by omega) (by omega) (by omega))
 replace OT : Hid (Ot gy W3 V64) := Lib.hid (OT.out.trans ho)
 clear hx ho
 go_wp2_with fail
 refine (quarter16 _ gy (qr (drounds 8 L) 0 4 8 12) RX.out RW.out 1 5 9 13 (by omega) (by omega) (by omega) (by omega) (by omega) (by omega) (by omega) (by omega) (by omega) (by omega)).mono ?_
 rintro e V65 ⟨rfl, hx, ho⟩
 replace RX : Hid (Six V65 gy (qr (qr (drounds 8 L) 0 4 8 12) 1 5 9 13)) := Lib.hid hx
 replace RW : Hid (W16 (qr (qr (drounds 8 L) 0 4 8 12) 1 5 9 13)) := Lib.hid (qr_w16 RW.out _ _ _ _ (by omega) (by omega) (by omega) (by omega))
 replace OT : Hid (Ot gy W3 V65) := Lib.hid (OT.out.trans ho)
 clear hx ho
 go_wp2_with fail
 refine (quarter16 _ gy (qr (qr (drounds 8 L) 0 4 8 12) 1 5 9 13) RX.out RW.out 2 6 10 14 (by omega) (by omega) (by omega) (by omega) (by omega) (by omega) (by omega) (by omega) (by omega) (by omega)).mono ?_
 rintro e V66 ⟨rfl, hx, ho⟩
 replace RX : Hid (Six V66 gy (qr (qr (qr (drounds 8 L) 0 4 8 12) 1 5 9 13) 2 6 10 14)) := Lib.hid hx
 replace RW : Hid (W16 (qr (qr (qr (drounds 8 L) 0 4 8 12) 1 5 9 13) 2 6 10 14)) := Lib.hid (qr_w16 RW.out _ _ _ _ (by omega) (by omega) (by omega) (by omega))
 replace OT : Hid (Ot gy W3 V66) := Lib.hid (OT.out.trans ho)
 clear hx ho
 go_wp2_with fail
 refine (quarter16 _ gy (qr (qr (qr (drounds 8 L) 0 4 8 12) 1 5 9 13) 2 6 10 14) RX.out RW.out 3 7 11 15 (by omega) (by omega) (by omega) (by omega) (by omega) (by omega) (by omega) (by omega) (by omega) (by omega)).mono ?_
 rintro e V67 ⟨rfl, hx, ho⟩
 replace RX : Hid (Six V67 gy (qr (qr (qr (qr (drounds 8 L) 0 4 8 12) 1 5 9 13) 2 6 10 14) 3 7 11 15)) := Lib.hid hx
 replace RW : Hid (W16 (qr (qr (qr (qr (drounds 8 L) 0 4 8 12) 1 5 9 13) 2 6 10 14) 3 7 11 15)) := Lib.hid (qr_w16 RW.out _ _ _ _ (by omega) (by omega) (by omega) (by omega))
 replace OT : Hid (Ot gy W3 V67) := Lib.hid (OT.out.trans ho)
 clear hx ho
 go_wp2_with fail
 refine (quarter16 _ gy (qr (qr (qr (qr (drounds 8 L) 0 4 8 12) 1 5 9 13) 2 6 10 14) 3 7 11 15) RX.out RW.out 0 5 10 15 (by omega) (by omega) (by omega) (by omega) (by omega) (by omega) (by omega) (by omega) (by omega) (by omega)).mono ?_
 rintro e V68 ⟨rfl, hx, ho⟩
 replace RX : Hid (Six V68 gy (qr (qr (qr (qr (qr (drounds 8 L) 0 4 8 12) 1 5 9 13) 2 6 10 14) 3 7 11 15) 0 5 10 15)) := Lib.hid hx
 replace RW : Hid (W16 (qr (qr (qr (qr (qr (drounds 8 L) 0 4 8 12) 1 5 9 13) 2 6 10 14) 3 7 11 15) 0 5 10 15)) := Lib.hid (qr_w16 RW.out _ _ _ _ (by omega) (by omega) (by omega) (by omega))
 replace OT : Hid (Ot gy W3 V68) := Lib.hid (OT.out.trans ho)
 clear hx ho
 go_wp2_with fail
 refine (quarter16 _ gy (qr (qr (qr (qr (qr (drounds 8 L) 0 4 8 12) 1 5 9 13) 2 6 10 14) 3 7 11 15) 0 5 10 15) RX.out RW.out 1 6 11 12 (by omega) (by omega) (by omega) (by omega) (by omega) (by omega) (by omega) (by omega) (by omega) (by omega)).mono ?_
 rintro e V69 ⟨rfl, hx, ho⟩
 replace RX : Hid (Six V69 gy (qr (qr (qr (qr (qr (qr (drounds 8 L) 0 4 8 12) 1 5 9 13) 2 6 10 14) 3 7 11 15) 0 5 10 15) 1 6 11 12)) := Lib.hid hx
 replace RW : Hid (W16 (qr (qr (qr (qr (qr (qr (drounds 8 L) 0 4 8 12) 1 5 9 13) 2 6 10 14) 3 7 11 15) 0 5 10 15) 1 6 11 12)) := Lib.hid (qr_w16 RW.out _ _ _ _ (by omega) (by omega) (by omega) (by omega))
 replace OT : Hid (Ot gy W3 V69) := Lib.hid (OT.out.trans ho)
 clear hx ho
 go_wp2_with fail
 refine (quarter16 _ gy (qr (qr (qr (qr (qr (qr (drounds 8 L) 0 4 8 12) 1 5 9 13) 2 6 10 14) 3 7 11 15) 0 5 10 15) 1 6 11 12) RX.out RW.out 2 7 8 13 (by omega) (by omega) (by omega) (by omega) (by omega) (by omega) (by omega) (by omega) (by omega) (by omega)).mono ?_
 rintro e V70 ⟨rfl, hx, ho⟩
 replace RX : Hid (Six V70 gy (qr (qr (qr (qr (qr (qr (qr (drounds 8 L) 0 4 8 12) 1 5 9 13) 2 6 10 14) 3 7 11 15) 0 5 10 15) 1 6 11 12) 2 7 8 13)) := Lib.hid hx
 replace RW : Hid (W16 (qr (qr (qr (qr (qr (qr (qr (drounds 8 L) 0 4 8 12) 1 5 9 13) 2 6 10 14) 3 7 11 15) 0 5 10 15) 1 6 11 12) 2 7 8 13)) := Lib.hid (qr_w16 RW.out _ _ _ _ (by omega) (by omega) (by omega) (by omega))
 replace OT : Hid (Ot gy W3 V70) := Lib.hid (OT.out.trans ho)
 clear hx ho
 go_wp2_with fail
 refine (quarter16 _ gy (qr (qr (qr (qr (qr (qr (qr (drounds 8 L) 0 4 8 12) 1 5 9 13) 2 6 10 14) 3 7 11 15) 0 5 10 15) 1 6 11 12) 2 7 8 13) RX.out RW.out 3 4 9 14 (by omega) (by omega) (by omega) (by omega) (by omega) (by omega) (by omega) (by omega) (by omega) (by omega)).mono ?_
 rintro e V71 ⟨rfl, hx, ho⟩
 replace RX : Hid (Six V71 gy (qr (qr (qr (qr (qr (qr (qr (qr (drounds 8 L) 0 4 8 12) 1 5 9 13) 2 6 10 14) 3 7 11 15) 0 5 10 15) 1 6 11 12) 2 7 8 13) 3 4 9 14)) := Lib.hid hx
 replace RW : Hid (W16 (qr (qr (qr (qr (qr (qr (qr (qr (drounds 8 L) 0 4 8 12) 1 5 9 13) 2 6 10 14) 3 7 11 15) 0 5 10 15) 1 6 11 12) 2 7 8 13) 3 4 9 14)) := Lib.hid (qr_w16 RW.out _ _ _ _ (by omega) (by omega) (by omega) (by omega))
 replace OT : Hid (Ot gy W3 V71) := Lib.hid (OT.out.trans ho)
 clear hx ho
 replace RX : Hid (Six V71 gy (drounds 9 L)) := RX
 clear RW
 go_wp2_with fail
 rw [rounds_succ]
 have RW : Hid (W16 (drounds 9 L)) := Lib.hid (drounds_w16 WF.out 9)
 go_wp2_with fail
 refine (quarter16 _ gy (drounds 9 L) RX.out RW.out 0 4 8 12 (by omega) (by omega) (by omega) (by omega) (by omega) (by omega) (by omega) (by omega) (by omega) (by omega)).mono ?_
 rintro e V72 ⟨rfl, hx, ho⟩
 replace RX : Hid (Six V72 gy (qr (drounds 9 L) 0 4 8 12)) := Lib.hid hx
 replace RW : Hid (W16 (qr (drounds 9 L) 0 4 8 12)) := Lib.hid (qr_w16 RW.out _ _ _ _ (by omega) (by omega) (by omega) (by omega))
 replace OT : Hid (Ot gy W3 V72) := Lib.hid (OT.out.trans ho)
 clear hx ho
 go_wp2_with fail
 refine (quarter16 _ gy (qr (drounds 9 L) 0 4 8 12) RX.out RW.out 1 5 9 13 (by omega) (by omega) (by omega) (by omega) (by omega) (by omega) (by omega) (by omega) (by omega) (by omega)).mono ?_
 rintro e V73 ⟨rfl, hx, ho⟩
 replace RX : Hid (Six V73 gy (qr (qr (drounds 9 L) 0 4 8 12) 1 5 9 13)) := Lib.hid hx
 replace RW : Hid (W16 (qr (qr (drounds 9 L) 0 4 8 12) 1 5 9 13)) := Lib.hid (qr_w16 RW.out _ _ _ _ (by omega) (by omega) (by omega) (by omega))
 replace OT : Hid (Ot gy W3 V73) := Lib.hid (OT.out.trans ho)
 clear hx ho
 go_wp2_with fail
 refine (quarter16 _ gy (qr (qr (drounds 9 L) 0 4 8 12) 1 5 9 13) RX.out RW.out 2 6 10 14 (by omega) (by omega) (by omega) (by omega) (by omega) (by omega) (by omega) (by omega) (by omega) (by omega)).mono ?_
 rintro e V74 ⟨rfl, hx, ho⟩
 replace RX : Hid (Six V74 gy (qr (qr (qr (drounds 9 L) 0 4 8 12) 1 5 9 13) 2 6 10 14)) := Lib.hid hx
 replace RW : Hid (W16 (qr (qr (qr (drounds 9 L) 0 4 8 12) 1 5 9 13) 2 6 10 14)) := Lib.hid (qr_w16 RW.out _ _ _ _ (by omega) (by omega) (by omega) (by omega))
 replace OT : Hid (Ot gy W3 V74) := Lib.hid (OT.out.trans ho)
 clear hx ho
 go_wp2_with fail
 refine (quarter16 _ gy (qr (qr (qr (drounds 9 L) 0 4 8 12) 1 5 9 13) 2 6 10 14) RX.out RW.out 3 7 11 15 (by omega) (by omega) (by omega) (by omega) (by omega) (by omega) (by omega) (by omega) (by omega) (by omega)).mono ?_
 rintro e V75 ⟨rfl, hx, ho⟩
 replace RX : Hid (Six V75 gy (qr (qr (qr (qr (drounds 9 L) 0 4 8 12) 1 5 9 13) 2 6 10 14) 3 7 11 15)) := Lib.hid hx
 replace RW : Hid (W16 (qr (qr (qr (qr (drounds 9 L) 0 4 8 12) 1 5 9 13) 2 6 10 14) 3 7 11 15)) := Lib.hid (qr_w16 RW.out _ _ _ _ (by omega) (by omega) (by omega) (by omega))
 replace OT : Hid (Ot gy W3 V75) := Lib.hid (OT.out.trans ho)
 clear hx ho
 go_wp2_with fail
 refine (quarter16 _ gy (qr (qr (qr (qr (drounds 9 L) 0 4 8 12) 1 5 9 13) 2 6 10 14) 3 7 11 15) RX.out RW.out 0 5 10 15 (by omega) (by omega) (by omega) (by omega) (by omega) (by omega) (by omega) (by omega) (by omega) (by omega)).mono ?_
 rintro e V76 ⟨rfl, hx, ho⟩
 replace RX : Hid (Six V76 gy (qr (qr (qr (qr (qr (drounds 9 L) 0 4 8 12) 1 5 9 13) 2 6 10 14) 3 7 11 15) 0 5 10 15)) := Lib.hid hx
 replace RW : Hid (W16 (qr (qr (qr (qr (qr (drounds 9 L) 0 4 8 12) 1 5 9 13) 2 6 10 14) 3 7 11 15) 0 5 10 15)) := Lib.hid (qr_w16 RW.out _ _ _ _ (by omega) (by omega) (by omega) (by omega))
 replace OT : Hid (Ot gy W3 V76) := Lib.hid (OT.out.trans ho)
 clear hx ho
 go_wp2_with fail
 refine (quarter16 _ gy (qr (qr (qr (qr (qr (drounds 9 L) 0 4 8 12) 1 5 9 13) 2 6 10 14) 3 7 11 15) 0 5 10 15) RX.out RW.out 1 6 11 12 (by omega) (by omega) (by omega) (by omega) (by omega) (by omega) (by omega) (by omega) (by omega) (by omega)).mono ?_
 rintro e V77 ⟨rfl, hx, ho⟩
 replace RX : Hid (Six V77 gy (qr (qr (qr (qr (qr (qr (drounds 9 L) 0 4 8 12) 1 5 9 13) 2 6 10 14) 3 7 11 15) 0 5 10 15) 1 6 11 12)) := Lib.hid hx
 replace RW : Hid (W16 (qr (qr (qr (qr (qr (qr (drounds 9 L) 0 4 8 12) 1 5 9 13) 2 6 10 14) 3 7 11 15) 0 5 10 15) 1 6 11 12)) := Lib.hid (qr_w16 RW.out _ _ _ _ (by omega) (by omega) (by omega) (by omega))
 replace OT : Hid (Ot gy W3 V77) := Lib.hid (OT.out.trans ho)
 clear hx ho
 go_wp2_with fail
 refine (quarter16 _ gy (qr (qr (qr (qr (qr (qr (drounds 9 L) 0 4 8 12) 1 5 9 13) 2 6 10 14) 3 7 11 15) 0 5 10 15) 1 6 11 12) RX.out RW.out 2 7 8 13 (by omega) (by omega) (by omega) (by omega) (by omega) (by omega) (by omega) (by omega) (by omega) (by omega)).mono ?_
 rintro e V78 ⟨rfl, hx, ho⟩
 replace RX : Hid (Six V78 gy (qr (qr (qr (qr (qr (qr (qr (drounds 9 L) 0 4 8 12) 1 5 9 13) 2 6 10 14) 3 7 11 15) 0 5 10 15) 1 6 11 12) 2 7 8 13)) := Lib.hid hx
 replace RW : Hid (W16 (qr (qr (qr (qr (qr (qr (qr (drounds 9 L) 0 4 8 12) 1 5 9 13) 2 6 10 14) 3 7 11 15) 0 5 10 15) 1 6 11 12) 2 7 8 13)) := Lib.hid (qr_w16 RW.out _ _ _ _ (by omega) (by omega) (by omega) (by omega))
 replace OT : Hid (Ot gy W3 V78) := Lib.hid (OT.out.trans ho)
 clear hx ho
 go_wp2_with fail
 refine (quarter16 _ gy (qr (qr (qr (qr (qr (qr (qr (drounds 9 L) 0 4 8 12) 1 5 9 13) 2 6 10 14) 3 7 11 15) 0 5 10 15) 1 6 11 12) 2 7 8 13) RX.out RW.out 3 4 9 14 (by omega) (by omega) (by omega) (by omega) (by omega) (by omega) (by omega) (by omega) (by omega) (by omega)).mono ?_
 rintro e V79 ⟨rfl, hx, ho⟩
 replace RX : Hid (Six V79 gy (qr (qr (qr (qr (qr (qr (qr (qr (drounds 9 L) 0 4 8 12) 1 5 9 13) 2 6 10 14) 3 7 11 15) 0 5 10 15) 1 6 11 12) 2 7 8 13) 3 4 9 14)) := Lib.hid hx
 replace RW : Hid (W16 (qr (qr (qr (qr (qr (qr (qr (qr (drounds 9 L) 0 4 8 12) 1 5 9 13) 2 6 10 14) 3 7 11 15) 0 5 10 15) 1 6 11 12) 2 7 8 13) 3 4 9 14)) := Lib.hid (qr_w16 RW.out _ _ _ _ (by omega) (by omega) (by omega) (by omega))
 replace OT : Hid (Ot gy W3 V79) := Lib.hid (OT.out.trans ho)
 clear hx ho
 replace RX : Hid (Six V79 gy (drounds 10 L)) := RX
 clear RW
 go_wp2_with fail
 rw [rounds_succ]
 replace RF : Hid (Blk V79 gx 77 (u32s L)) := Lib.hid (OT.out.blk RF.out D2.out)
 replace RO : Hid (Blk V79 gO 53 #[.int .u8 0, .int .u8 0, .int .u8 0, .int .u8 0, .int .u8 0, .int .u8 0, .int .u8 0, .int .u8 0, .int .u8 0, .int .u8 0, .int .u8 0, .int .u8 0, .int .u8 0, .int .u8 0, .int .u8 0, .int .u8 0, .int .u8 0, .int .u8 0, .int .u8 0, .int .u8 0, .int .u8 0, .int .u8 0, .int .u8 0, .int .u8 0, .int .u8 0, .int .u8 0, .int .u8 0, .int .u8 0, .int .u8 0, .int .u8 0, .int .u8 0, .int .u8 0, .int .u8 0, .int .u8 0, .int .u8 0, .int .u8 0, .int .u8 0, .int .u8 0, .int .u8 0, .int .u8 0, .int .u8 0, .int .u8 0, .int .u8 0, .int .u8 0, .int .u8 0, .int .u8 0, .int .u8 0, .int .u8 0, .int .u8 0, .int .u8 0, .int .u8 0, .int .u8 0, .int .u8 0, .int .u8 0, .int .u8 0, .int .u8 0, .int .u8 0, .int .u8 0, .int .u8 0, .int .u8 0, .int .u8 0, .int .u8 0, .int .u8 0, .int .u8 0]) := Lib.hid (OT.out.blk RO.out DO2.out)
 replace BW : Hid (Below gk w V79) := Lib.hid (OT.out.below BW.out LW2.out)
 have S4 : Hid (V79.heap.size = gy + 1) := Lib.hid (OT.out.2.2.2.1.trans S3.out)
 clear OT S3
 go_wp2_with fail
 have LF : Hid (gx < V79.heap.size) := Lib.hid RF.out.lt
 have LOO : Hid (gO < V79.heap.size) := Lib.hid RO.out.lt
 have LY : Hid (gy < V79.heap.size) := Lib.hid (by rw [S4.out]; omega)
 obtain ⟨U0, hU⟩ : ∃ U, U = V79.alloc (.cells #[.int .u8 0, .int .u8 0, .int .u8 0, .int .u8 0, .int .u8 0, .int .u8 0, .int .u8 0, .int .u8 0, .int .u8 0, .int .u8 0, .int .u8 0, .int .u8 0, .int .u8 0, .int .u8 0, .int .u8 0, .int .u8 0, .int .u8 0, .int .u8 0, .int .u8 0, .int .u8 0, .int .u8 0, .int .u8 0, .int .u8 0, .int .u8 0, .int .u8 0, .int .u8 0, .int .u8 0, .int .u8 0, .int .u8 0, .int .u8 0, .int .u8 0, .int .u8 0, .int .u8 0, .int .u8 0, .int .u8 0, .int .u8 0, .int .u8 0, .int .u8 0, .int .u8 0, .int .u8 0, .int .u8 0, .int .u8 0, .int .u8 0, .int .u8 0, .int .u8 0, .int .u8 0, .int .u8 0, .int .u8 0, .int .u8 0, .int .u8 0, .int .u8 0, .int .u8 0, .int .u8 0, .int .u8 0, .int .u8 0, .int .u8 0, .int .u8 0, .int .u8 0, .int .u8 0, .int .u8 0, .int .u8 0, .int .u8 0, .int .u8 0, .int .u8 0] 53) := ⟨_, rfl⟩
 rw [← hU]
 replace RF : Hid (Blk U0 gx 77 (u32s L)) := Lib.hid (by rw [hU]; exact RF.out.alloc _)
 replace RO : Hid (Blk U0 gO 53 #[.int .u8 0, .int .u8 0, .int .u8 0, .int .u8 0, .int .u8 0, .int .u8 0, .int .u8 0, .int .u8 0, .int .u8 0, .int .u8 0, .int .u8 0, .int .u8 0, .int .u8 0, .int .u8 0, .int .u8 0, .int .u8 0, .int .u8 0, .int .u8 0, .int .u8 0, .int .u8 0, .int .u8 0, .int .u8 0, .int .u8 0, .int .u8 0, .int .u8 0, .int .u8 0, .int .u8 0, .int .u8 0, .int .u8 0, .int .u8 0, .int .u8 0, .int .u8 0, .int .u8 0, .int .u8 0, .int .u8 0, .int .u8 0, .int .u8 0, .int .u8 0, .int .u8 0, .int .u8 0, .int .u8 0, .int .u8 0, .int .u8 0, .int .u8 0, .int .u8 0, .int .u8 0, .int .u8 0, .int .u8 0, .int .u8 0, .int .u8 0, .int .u8 0, .int .u8 0, .int .u8 0, .int .u8 0, .int .u8 0, .int .u8 0, .int .u8 0, .int .u8 0, .int .u8 0, .int .u8 0, .int .u8 0, .int .u8 0, .int .u8 0, .int .u8 0]) := Lib.hid (by rw [hU]; exact RO.out.alloc _)
 replace BW : Hid (Below gk w U0) := Lib.hid (by rw [hU]; exact BW.out.alloc (by rw [S4.out]; have := LW2.out; omega) _)
 replace RX : Hid (Six U0 gy (drounds 10 L)) := Lib.hid (RX.out.far (by rw [hU]; exact Below.heap_alloc _ _ _ LY.out))
 have RZ : Hid (Blk U0 V79.heap.size 53 (u8b (obs L (drounds 10 L) 0))) := Lib.hid (by rw [hU]; exact Blk.new V79 53 _)
 have LZ : Hid (gk ≤ V79.heap.size) := Lib.hid (by rw [S4.out]; have := LW2.out; omega)
 clear hU S4
 generalize hM : drounds 10 L = M at *
 have EM := Lib.hid hM
 clear hM
 generalize V79.heap.size = gz at *
 have EX : Hid (gx ≠ gz) := Lib.hid (Nat.ne_of_lt LF.out)
 have EY : Hid (gy ≠ gz) := Lib.hid (Nat.ne_of_lt LY.out)
 have EO : Hid (gO ≠ gz) := Lib.hid (Nat.ne_of_lt LOO.out)
 clear LF LY LOO
 have hI : OutI gy gx gz gO gk L M w 0 U0 := ⟨RX.out, RF.out, RZ.out, RO.out, BW.out⟩
 have HI := Lib.hid hI
 clear hI RX RF RZ RO BW
 go_loopw [28] (fun s28 wr => ∃ k : Nat, k ≤ 16 ∧ s28 = .int .i64 k ∧ Hid (OutI gy gx gz gO gk L M w k wr)) (fun s28 _ => 16 - (intOf s28).toNat)
 case atStart => exact ⟨0, by omega, rfl, HI⟩
 case round =>
  clear HI
  obtain ⟨k, hk, rfl, RI⟩ := hrel
  rcases (show k = 0 ∨ k = 1 ∨ k = 2 ∨ k = 3 ∨ k = 4 ∨ k = 5 ∨ k = 6 ∨ k = 7 ∨ k = 8 ∨ k = 9 ∨ k = 10 ∨ k = 11 ∨ k = 12 ∨ k = 13 ∨ k = 14 ∨ k = 15 ∨ k = 16 by omega) with rfl | rfl | rfl | rfl | rfl | rfl | rfl | rfl | rfl | rfl | rfl | rfl | rfl | rfl | rfl | rfl | rfl
  ·have c1 : wr.cell? ⟨gy, 0, none⟩ = some (.int .u32 (M.getD 0 0 : Nat)) := (RI.out.1 0 (by omega)).1
   have c2 : wr.cell? ⟨gx, 0, none⟩ = some (.int .u32 (L.getD 0 0 : Nat)) := RI.out.2.1.u32 0 (by rw [WF.out.1]; omega)
   generalize hA : M.getD 0 0 = A at c1
   generalize hB : L.getD 0 0 = B at c2
   have EA := Lib.hid hA
   have EB := Lib.hid hB
   clear hA hB
   have rS : ((A : Int) + (B : Int)) % 4294967296 = (((A + B) % 4294967296 : Nat) : Int) := by omega
   generalize hS : (A + B) % 4294967296 = S at rS
   have z0 : wr.cell? ⟨gz, 0, none⟩ = some (.int .u8 0) := RI.out.2.2.1.b8 0 (obs_zero _ _ _ _ (by omega) (by omega)) rfl
   have z1 : wr.cell? ⟨gz, 1, none⟩ = some (.int .u8 0) := RI.out.2.2.1.b8 1 (obs_zero _ _ _ _ (by omega) (by omega)) rfl
   have z2 : wr.cell? ⟨gz, 2, none⟩ = some (.int .u8 0) := RI.out.2.2.1.b8 2 (obs_zero _ _ _ _ (by omega) (by omega)) rfl
   have z3 : wr.cell? ⟨gz, 3, none⟩ = some (.int .u8 0) := RI.out.2.2.1.b8 3 (obs_zero _ _ _ _ (by omega) (by omega)) rfl
   have f0 : wr.frozen? ⟨gz, 0, none⟩ = false := RI.out.2.2.1.free _
   have f1 : wr.frozen? ⟨gz, 1, none⟩ = false := RI.out.2.2.1.free _
   have f2 : wr.frozen? ⟨gz, 2, none⟩ = false := RI.out.2.2.1.free _
   have f3 : wr.frozen? ⟨gz, 3, none⟩ = false := RI.out.2.2.1.free _
   have ES := Lib.hid hS
   clear hS
   go_wp2_with fail
   go_region
   go_wp2_with fail
   clear c1 c2 rS z0 z1 z2 z3 f0 f1 f2 f3
   go_roundw
   case rel => exact ⟨1, by omega, rfl, Lib.hid (OutI.next 0 RI.out (by omega) EY.out EX.out EO.out LZ.out S (by rw [EA.out, EB.out]; exact ES.out))⟩
   case measure => simp [intOf]
  ·have c1 : wr.cell? ⟨gy, 1, none⟩ = some (.int .u32 (M.getD 1 0 : Nat)) := (RI.out.1 1 (by omega)).1
   have c2 : wr.cell? ⟨gx, 1, none⟩ = some (.int .u32 (L.getD 1 0 : Nat)) := RI.out.2.1.u32 1 (by rw [WF.out.1]; omega)
   generalize hA : M.getD 1 0 = A at c1
   generalize hB : L.getD 1 0 = B at c2
   have EA := Lib.hid hA
   have EB := Lib.hid hB
   clear hA hB
   have rS : ((A : Int) + (B : Int)) % 4294967296 = (((A + B) % 4294967296 : Nat) : Int) := by omega
   generalize hS : (A + B) % 4294967296 = S at rS
   have z0 : wr.cell? ⟨gz, 4, none⟩ = some (.int .u8 0) := RI.out.2.2.1.b8 4 (obs_zero _ _ _ _ (by omega) (by omega)) rfl
   have z1 : wr.cell? ⟨gz, 5, none⟩ = some (.int .u8 0) := RI.out.2.2.1.b8 5 (obs_zero _ _ _ _ (by omega) (by omega)) rfl
   have z2 : wr.cell? ⟨gz, 6, none⟩ = some (.int .u8 0) := RI.out.2.2.1.b8 6 (obs_zero _ _ _ _ (by omega) (by omega)) rfl
   have z3 : wr.cell? ⟨gz, 7, none⟩ = some (.int .u8 0) := RI.out.2.2.1.b8 7 (obs_zero _ _ _ _ (by omega) (by omega)) rfl
   have f0 : wr.frozen? ⟨gz, 4, none⟩ = false := RI.out.2.2.1.free _
   have f1 : wr.frozen? ⟨gz, 5, none⟩ = false := RI.out.2.2.1.free _
   have f2 : wr.frozen? ⟨gz, 6, none⟩ = false := RI.out.2.2.1.free _
   have f3 : wr.frozen? ⟨gz, 7, none⟩ = false := RI.out.2.2.1.free _
   have ES := Lib.hid hS
   clear hS
   go_wp2_with fail
   go_region
   go_wp2_with fail
   clear c1 c2 rS z0 z1 z2 z3 f0 f1 f2 f3
   go_roundw
   case rel => exact ⟨2, by omega, rfl, Lib.hid (OutI.next 1 RI.out (by omega) EY.out EX.out EO.out LZ.out S (by rw [EA.out, EB.out]; exact ES.out))⟩
   case measure => simp [intOf]
  ·have c1 : wr.cell? ⟨gy, 2, none⟩ = some (.int .u32 (M.getD 2 0 : Nat)) := (RI.out.1 2 (by omega)).1
   have c2 : wr.cell? ⟨gx, 2, none⟩ = some (.int .u32 (L.getD 2 0 : Nat)) := RI.out.2.1.u32 2 (by rw [WF.out.1]; omega)
   generalize hA : M.getD 2 0 = A at c1
   generalize hB : L.getD 2 0 = B at c2
   have EA := Lib.hid hA
   have EB := Lib.hid hB
   clear hA hB
   have rS : ((A : Int) + (B : Int)) % 4294967296 = (((A + B) % 4294967296 : Nat) : Int) := by omega
   generalize hS : (A + B) % 4294967296 = S at rS
   have z0 : wr.cell? ⟨gz, 8, none⟩ = some (.int .u8 0) := RI.out.2.2.1.b8 8 (obs_zero _ _ _ _ (by omega) (by omega)) rfl
   have z1 : wr.cell? ⟨gz, 9, none⟩ = some (.int .u8 0) := RI.out.2.2.1.b8 9 (obs_zero _ _ _ _ (by omega) (by omega)) rfl
   have z2 : wr.cell? ⟨gz, 10, none⟩ = some (.int .u8 0) := RI.out.2.2.1.b8 10 (obs_zero _ _ _ _ (by omega) (by omega)) rfl
   have z3 : wr.cell? ⟨gz, 11, none⟩ = some (.int .u8 0) := RI.out.2.2.1.b8 11 (obs_zero _ _ _ _ (by omega) (by omega)) rfl
   have f0 : wr.frozen? ⟨gz, 8, none⟩ = false := RI.out.2.2.1.free _
   have f1 : wr.frozen? ⟨gz, 9, none⟩ = false := RI.out.2.2.1.free _
   have f2 : wr.frozen? ⟨gz, 10, none⟩ = false := RI.out.2.2.1.free _
   have f3 : wr.frozen? ⟨gz, 11, none⟩ = false := RI.out.2.2.1.free _
   have ES := Lib.hid hS
   clear hS
   go_wp2_with fail
   go_region
   go_wp2_with fail
   clear c1 c2 rS z0 z1 z2 z3 f0 f1 f2 f3
   go_roundw
   case rel => exact ⟨3, by omega, rfl, Lib.hid (OutI.next 2 RI.out (by omega) EY.out EX.out EO.out LZ.out S (by rw [EA.out, EB.out]; exact ES.out))⟩
   case measure => simp [intOf]
  ·have c1 : wr.cell? ⟨gy, 3, none⟩ = some (.int .u32 (M.getD 3 0 : Nat)) := (RI.out.1 3 (by omega)).1
   have c2 : wr.cell? ⟨gx, 3, none⟩ = some (.int .u32 (L.getD 3 0 : Nat)) := RI.out.2.1.u32 3 (by rw [WF.out.1]; omega)
   generalize hA : M.getD 3 0 = A at c1
   generalize hB : L.getD 3 0 = B at c2
   have EA := Lib.hid hA
   have EB := Lib.hid hB
   clear hA hB
   have rS : ((A : Int) + (B : Int)) % 4294967296 = (((A + B) % 4294967296 : Nat) : Int) := by omega
   generalize hS : (A + B) % 4294967296 = S at rS
   have z0 : wr.cell? ⟨gz, 12, none⟩ = some (.int .u8 0) := RI.out.2.2.1.b8 12 (obs_zero _ _ _ _ (by omega) (by omega)) rfl
   have z1 : wr.cell? ⟨gz, 13, none⟩ = some (.int .u8 0) := RI.out.2.2.1.b8 13 (obs_zero _ _ _ _ (by omega) (by omega)) rfl
   have z2 : wr.cell? ⟨gz, 14, none⟩ = some (.int .u8 0) := RI.out.2.2.1.b8 14 (obs_zero _ _ _ _ (by omega) (by omega)) rfl
   have z3 : wr.cell? ⟨gz, 15, none⟩ = some (.int .u8 0) := RI.out.2.2.1.b8 15 (obs_zero _ _ _ _ (by omega) (by omega)) rfl
   have f0 : wr.frozen? ⟨gz, 12, none⟩ = false := RI.out.2.2.1.free _
   have f1 : wr.frozen? ⟨gz, 13, none⟩ = false := RI.out.2.2.1.free _
   have f2 : wr.frozen? ⟨gz, 14, none⟩ = false := RI.out.2.2.1.free _
   have f3 : wr.frozen? ⟨gz, 15, none⟩ = false := RI.out.2.2.1.free _
   have ES := Lib.hid hS
   clear hS
   go_wp2_with fail
   go_region
   go_wp2_with fail
   clear c1 c2 rS z0 z1 z2 z3 f0 f1 f2 f3
   go_roundw
   case rel => exact ⟨4, by omega, rfl, Lib.hid (OutI.next 3 RI.out (by omega) EY.out EX.out EO.out LZ.out S (by rw [EA.out, EB.out]; exact ES.out))⟩
   case measure => simp [intOf]
  ·have c1 : wr.cell? ⟨gy, 4, none⟩ = some (.int .u32 (M.getD 4 0 : Nat)) := (RI.out.1 4 (by omega)).1
   have c2 : wr.cell? ⟨gx, 4, none⟩ = some (.int .u32 (L.getD 4 0 : Nat)) := RI.out.2.1.u32 4 (by rw [WF.out.1]; omega)
   generalize hA : M.getD 4 0 = A at c1
   generalize hB : L.getD 4 0 = B at c2
   have EA := Lib.hid hA
   have EB := Lib.hid hB
   clear hA hB
   have rS : ((A : Int) + (B : Int)) % 4294967296 = (((A + B) % 4294967296 : Nat) : Int) := by omega
   generalize hS : (A + B) % 4294967296 = S at rS
   have z0 : wr.cell? ⟨gz, 16, none⟩ = some (.int .u8 0) := RI.out.2.2.1.b8 16 (obs_zero _ _ _ _ (by omega) (by omega)) rfl
   have z1 : wr.cell? ⟨gz, 17, none⟩ = some (.int .u8 0) := RI.out.2.2.1.b8 17 (obs_zero _ _ _ _ (by omega) (by omega)) rfl
   have z2 : wr.cell? ⟨gz, 18, none⟩ = some (.int .u8 0) := RI.out.2.2.1.b8 18 (obs_zero _ _ _ _ (by omega) (by omega)) rfl
   have z3 : wr.cell? ⟨gz, 19, none⟩ = some (.int .u8 0) := RI.out.2.2.1.b8 19 (obs_zero _ _ _ _ (by omega) (by omega)) rfl
   have f0 : wr.frozen? ⟨gz, 16, none⟩ = false := RI.out.2.2.1.free _
   have f1 : wr.frozen? ⟨gz, 17, none⟩ = false := RI.out.2.2.1.free _
   have f2 : wr.frozen? ⟨gz, 18, none⟩ = false := RI.out.2.2.1.free _
   have f3 : wr.frozen? ⟨gz, 19, none⟩ = false := RI.out.2.2.1.free _
   have ES := Lib.hid hS
   clear hS
   go_wp2_with fail
   go_region
   go_wp2_with fail
   clear c1 c2 rS z0 z1 z2 z3 f0 f1 f2 f3
   go_roundw
   case rel => exact ⟨5, by omega, rfl, Lib.hid (OutI.next 4 RI.out (by omega) EY.out EX.out EO.out LZ.out S (by rw [EA.out, EB.out]; exact ES.out))⟩
   case measure => simp [intOf]
  ·have c1 : wr.cell? ⟨gy, 5, none⟩ = some (.int .u32 (M.getD 5 0 : Nat)) := (RI.out.1 5 (by omega)).1
   have c2 : wr.cell? ⟨gx, 5, none⟩ = some (.int .u32 (L.getD 5 0 : Nat)) := RI.out.2.1.u32 5 (by rw [WF.out.1]; omega)
   generalize hA : M.getD 5 0 = A at c1
   generalize hB : L.getD 5 0 = B at c2
   have EA := Lib.hid hA
   have EB := Lib.hid hB
   clear hA hB
   have rS : ((A : Int) + (B : Int)) % 4294967296 = (((A + B) % 4294967296 : Nat) : Int) := by omega
   generalize hS : (A + B) % 4294967296 = S at rS
   have z0 : wr.cell? ⟨gz, 20, none⟩ = some (.int .u8 0) := RI.out.2.2.1.b8 20 (obs_zero _ _ _ _ (by omega) (by omega)) rfl
   have z1 : wr.cell? ⟨gz, 21, none⟩ = some (.int .u8 0) := RI.out.2.2.1.b8 21 (obs_zero _ _ _ _ (by omega) (by omega)) rfl
   have z2 : wr.cell? ⟨gz, 22, none⟩ = some (.int .u8 0) := RI.out.2.2.1.b8 22 (obs_zero _ _ _ _ (by omega) (by omega)) rfl
   have z3 : wr.cell? ⟨gz, 23, none⟩ = some (.int .u8 0) := RI.out.2.2.1.b8 23 (obs_zero _ _ _ _ (by omega) (by omega)) rfl
   have f0 : wr.frozen? ⟨gz, 20, none⟩ = false := RI.out.2.2.1.free _
   have f1 : wr.frozen? ⟨gz, 21, none⟩ = false := RI.out.2.2.1.free _
   have f2 : wr.frozen? ⟨gz, 22, none⟩ = false := RI.out.2.2.1.free _
   have f3 : wr.frozen? ⟨gz, 23, none⟩ = false := RI.out.2.2.1.free _
   have ES := Lib.hid hS
   clear hS
   go_wp2_with fail
   go_region
   go_wp2_with fail
   clear c1 c2 rS z0 z1 z2 z3 f0 f1 f2 f3
   go_roundw
   case rel => exact ⟨6, by omega, rfl, Lib.hid (OutI.next 5 RI.out (by omega) EY.out EX.out EO.out LZ.out S (by rw [EA.out, EB.out]; exact ES.out))⟩
   case measure => simp [intOf]
  ·have c1 : wr.cell? ⟨gy, 6, none⟩ = some (.int .u32 (M.getD 6 0 : Nat)) := (RI.out.1 6 (by omega)).1
   have c2 : wr.cell? ⟨gx, 6, none⟩ = some (.int .u32 (L.getD 6 0 : Nat)) := RI.out.2.1.u32 6 (by rw [WF.out.1]; omega)
   generalize hA : M.getD 6 0 = A at c1
   generalize hB : L.getD 6 0 = B at c2
   have EA := Lib.hid hA
   have EB := Lib.hid hB
   clear hA hB
   have rS : ((A : Int) + (B : Int)) % 4294967296 = (((A + B) % 4294967296 : Nat) : Int) := by omega
   generalize hS : (A + B) % 4294967296 = S at rS
   have z0 : wr.cell? ⟨gz, 24, none⟩ = some (.int .u8 0) := RI.out.2.2.1.b8 24 (obs_zero _ _ _ _ (by omega) (by omega)) rfl
   have z1 : wr.cell? ⟨gz, 25, none⟩ = some (.int .u8 0) := RI.out.2.2.1.b8 25 (obs_zero _ _ _ _ (by omega) (by omega)) rfl
   have z2 : wr.cell? ⟨gz, 26, none⟩ = some (.int .u8 0) := RI.out.2.2.1.b8 26 (obs_zero _ _ _ _ (by omega) (by omega)) rfl
   have z3 : wr.cell? ⟨gz, 27, none⟩ = some (.int .u8 0) := RI.out.2.2.1.b8 27 (obs_zero _ _ _ _ (by omega) (by omega)) rfl
   have f0 : wr.frozen? ⟨gz, 24, none⟩ = false := RI.out.2.2.1.free _
   have f1 : wr.frozen? ⟨gz, 25, none⟩ = false := RI.out.2.2.1.free _
   have f2 : wr.frozen? ⟨gz, 26, none⟩ = false := RI.out.2.2.1.free _
   have f3 : wr.frozen? ⟨gz, 27, none⟩ = false := RI.out.2.2.1.free _
   have ES := Lib.hid hS
   clear hS
   go_wp2_with fail
   go_region
   go_wp2_with fail
   clear c1 c2 rS z0 z1 z2 z3 f0 f1 f2 f3
   go_roundw
   case rel => exact ⟨7, by omega, rfl, Lib.hid (OutI.next 6 RI.out (by omega) EY.out EX.out EO.out LZ.out S (by rw [EA.out, EB.out]; exact ES.out))⟩
   case measure => simp [intOf]
  ·have c1 : wr.cell? ⟨gy, 7, none⟩ = some (.int .u32 (M.getD 7 0 : Nat)) := (RI.out.1 7 (by omega)).1
   have c2 : wr.cell? ⟨gx, 7, none⟩ = some (.int .u32 (L.getD 7 0 : Nat)) := RI.out.2.1.u32 7 (by rw [WF.out.1]; omega)
   generalize hA : M.getD 7 0 = A at c1
   generalize hB : L.getD 7 0 = B at c2
   have EA := Lib.hid hA
   have EB := Lib.hid hB
   clear hA hB
   have rS : ((A : Int) + (B : Int)) % 4294967296 = (((A + B) % 4294967296 : Nat) : Int) := by omega
   generalize hS : (A + B) % 4294967296 = S at rS
   have z0 : wr.cell? ⟨gz, 28, none⟩ = some (.int .u8 0) := RI.out.2.2.1.b8 28 (obs_zero _ _ _ _ (by omega) (by omega)) rfl
   have z1 : wr.cell? ⟨gz, 29, none⟩ = some (.int .u8 0) := RI.out.2.2.1.b8 29 (obs_zero _ _ _ _ (by omega) (by omega)) rfl
   have z2 : wr.cell? ⟨gz, 30, none⟩ = some (.int .u8 0) := RI.out.2.2.1.b8 30 (obs_zero _ _ _ _ (by omega) (by omega)) rfl
   have z3 : wr.cell? ⟨gz, 31, none⟩ = some (.int .u8 0) := RI.out.2.2.1.b8 31 (obs_zero _ _ _ _ (by omega) (by omega)) rfl
   have f0 : wr.frozen? ⟨gz, 28, none⟩ = false := RI.out.2.2.1.free _
   have f1 : wr.frozen? ⟨gz, 29, none⟩ = false := RI.out.2.2.1.free _
   have f2 : wr.frozen? ⟨gz, 30, none⟩ = false := RI.out.2.2.1.free _
   have f3 : wr.frozen? ⟨gz, 31, none⟩ = false := RI.out.2.2.1.free _
   have ES := Lib.hid hS
   clear hS
   go_wp2_with fail
   go_region
   go_wp2_with fail
   clear c1 c2 rS z0 z1 z2 z3 f0 f1 f2 f3
   go_roundw
   case rel => exact ⟨8, by omega, rfl, Lib.hid (OutI.next 7 RI.out (by omega) EY.out EX.out EO.out LZ.out S (by rw [EA.out, EB.out]; exact ES.out))⟩
   case measure => simp [intOf]
  ·have c1 : wr.cell? ⟨gy, 8, none⟩ = some (.int .u32 (M.getD 8 0 : Nat)) := (RI.out.1 8 (by omega)).1
   have c2 : wr.cell? ⟨gx, 8, none⟩ = some (.int .u32 (L.getD 8 0 : Nat)) := RI.out.2.1.u32 8 (by rw [WF.out.1]; omega)
   generalize hA : M.getD 8 0 = A at c1
   generalize hB : L.getD 8 0 = B at c2
   have EA := Lib.hid hA
   have EB := Lib.hid hB
   clear hA hB
   have rS : ((A : Int) + (B : Int)) % 4294967296 = (((A + B) % 4294967296 : Nat) : Int) := by omega
   generalize hS : (A + B) % 4294967296 = S at rS
   have z0 : wr.cell? ⟨gz, 32, none⟩ = some (.int .u8 0) := RI.out.2.2.1.b8 32 (obs_zero _ _ _ _ (by omega) (by omega)) rfl
   have z1 : wr.cell? ⟨gz, 33, none⟩ = some (.int .u8 0) := RI.out.2.2.1.b8 33 (obs_zero _ _ _ _ (by omega) (by omega)) rfl
   have z2 : wr.cell? ⟨gz, 34, none⟩ = some (.int .u8 0) := RI.out.2.2.1.b8 34 (obs_zero _ _ _ _ (by omega) (by omega)) rfl
   have z3 : wr.cell? ⟨gz, 35, none⟩ = some (.int .u8 0) := RI.out.2.2.1.b8 35 (obs_zero _ _ _ _ (by omega) (by omega)) rfl
   have f0 : wr.frozen? ⟨gz, 32, none⟩ = false := RI.out.2.2.1.free _
   have f1 : wr.frozen? ⟨gz, 33, none⟩ = false := RI.out.2.2.1.free _
   have f2 : wr.frozen? ⟨gz, 34, none⟩ = false := RI.out.2.2.1.free _
   have f3 : wr.frozen? ⟨gz, 35, none⟩ = false := RI.out.2.2.1.free _
   have ES := Lib.hid hS
   clear hS
   go_wp2_with fail
   go_region
   go_wp2_with fail
   clear c1 c2 rS z0 z1 z2 z3 f0 f1 f2 f3
   go_roundw
   case rel => exact ⟨9, by omega, rfl, Lib.hid (OutI.next 8 RI.out (by omega) EY.out EX.out EO.out LZ.out S (by rw [EA.out, EB.out]; exact ES.out))⟩
   case measure => simp [intOf]
  ·have c1 : wr.cell? ⟨gy, 9, none⟩ = some (.int .u32 (M.getD 9 0 : Nat)) := (RI.out.1 9 (by omega)).1
   have c2 : wr.cell? ⟨gx, 9, none⟩ = some (.int .u32 (L.getD 9 0 : Nat)) := RI.out.2.1.u32 9 (by rw [WF.out.1]; omega)
   generalize hA : M.getD 9 0 = A at c1
   generalize hB : L.getD 9 0 = B at c2
   have EA := Lib.hid hA
   have EB := Lib.hid hB
   clear hA hB
   have rS : ((A : Int) + (B : Int)) % 4294967296 = (((A + B) % 4294967296 : Nat) : Int) := by omega
   generalize hS : (A + B) % 4294967296 = S at rS
   have z0 : wr.cell? ⟨gz, 36, none⟩ = some (.int .u8 0) := RI.out.2.2.1.b8 36 (obs_zero _ _ _ _ (by omega) (by omega)) rfl
   have z1 : wr.cell? ⟨gz, 37, none⟩ = some (.int .u8 0) := RI.out.2.2.1.b8 37 (obs_zero _ _ _ _ (by omega) (by omega)) rfl
   have z2 : wr.cell? ⟨gz, 38, none⟩ = some (.int .u8 0) := RI.out.2.2.1.b8 38 (obs_zero _ _ _ _ (by omega) (by omega)) rfl
   have z3 : wr.cell? ⟨gz, 39, none⟩ = some (.int .u8 0) := RI.out.2.2.1.b8 39 (obs_zero _ _ _ _ (by omega) (by omega)) rfl
   have f0 : wr.frozen? ⟨gz, 36, none⟩ = false := RI.out.2.2.1.free _
   have f1 : wr.frozen? ⟨gz, 37, none⟩ = false := RI.out.2.2.1.free _
   have f2 : wr.frozen? ⟨gz, 38, none⟩ = false := RI.out.2.2.1.free _
   have f3 : wr.frozen? ⟨gz, 39, none⟩ = false := RI.out.2.2.1.free _
   have ES := Lib.hid hS
   clear hS
   go_wp2_with fail
   go_region
   go_wp2_with fail
   clear c1 c2 rS z0 z1 z2 z3 f0 f1 f2 f3
   go_roundw
   case rel => exact ⟨10, by omega, rfl, Lib.hid (OutI.next 9 RI.out (by omega) EY.out EX.out EO.out LZ.out S (by rw [EA.out, EB.out]; exact ES.out))⟩
   case measure => simp [intOf]
  ·have c1 : wr.cell? ⟨gy, 10, none⟩ = some (.int .u32 (M.getD 10 0 : Nat)) := (RI.out.1 10 (by omega)).1
   have c2 : wr.cell? ⟨gx, 10, none⟩ = some (.int .u32 (L.getD 10 0 : Nat)) := RI.out.2.1.u32 10 (by rw [WF.out.1]; omega)
   generalize hA : M.getD 10 0 = A at c1
   generalize hB : L.getD 10 0 = B at c2
   have EA := Lib.hid hA
   have EB := Lib.hid hB
   clear hA hB
   have rS : ((A : Int) + (B : Int)) % 4294967296 = (((A + B) % 4294967296 : Nat) : Int) := by omega
   generalize hS : (A + B) % 4294967296 = S at rS
   have z0 : wr.cell? ⟨gz, 40, none⟩ = some (.int .u8 0) := RI.out.2.2.1.b8 40 (obs_zero _ _ _ _ (by omega) (by omega)) rfl
   have z1 : wr.cell? ⟨gz, 41, none⟩ = some (.int .u8 0) := RI.out.2.2.1.b8 41 (obs_zero _ _ _ _ (by omega) (by omega)) rfl
   have z2 : wr.cell? ⟨gz, 42, none⟩ = some (.int .u8 0) := RI.out.2.2.1.b8 42 (obs_zero _ _ _ _ (by omega) (by omega)) rfl
   have z3 : wr.cell? ⟨gz, 43, none⟩ = some (.int .u8 0) := RI.out.2.2.1.b8 43 (obs_zero _ _ _ _ (by omega) (by omega)) rfl
   have f0 : wr.frozen? ⟨gz, 40, none⟩ = false := RI.out.2.2.1.free _
   have f1 : wr.frozen? ⟨gz, 41, none⟩ = false := RI.out.2.2.1.free _
   have f2 : wr.frozen? ⟨gz, 42, none⟩ = false := RI.out.2.2.1.free _
   have f3 : wr.frozen? ⟨gz, 43, none⟩ = false := RI.out.2.2.1.free _
   have ES := Lib.hid hS
   clear hS
   go_wp2_with fail
   go_region
   go_wp2_with fail
   clear c1 c2 rS z0 z1 z2 z3 f0 f1 f2 f3
   go_roundw
   case rel => exact ⟨11, by omega, rfl, Lib.hid (OutI.next 10 RI.out (by omega) EY.out EX.out EO.out LZ.out S (by rw [EA.out, EB.out]; exact ES.out))⟩
   case measure => simp [intOf]
  ·have c1 : wr.cell? ⟨gy, 11, none⟩ = some (.int .u32 (M.getD 11 0 : Nat)) := (RI.out.1 11 (by omega)).1
   have c2 : wr.cell? ⟨gx, 11, none⟩ = some (.int .u32 (L.getD 11 0 : Nat)) := RI.out.2.1.u32 11 (by rw [WF.out.1]; omega)
   generalize hA : M.getD 11 0 = A at c1
   generalize hB : L.getD 11 0 = B at c2
   have EA := Lib.hid hA
   have EB := Lib.hid hB
   clear hA hB
   have rS : ((A : Int) + (B : Int)) % 4294967296 = (((A + B) % 4294967296 : Nat) : Int) := by omega
   generalize hS : (A + B) % 4294967296 = S at rS
   have z0 : wr.cell? ⟨gz, 44, none⟩ = some (.int .u8 0) := RI.out.2.2.1.b8 44 (obs_zero _ _ _ _ (by omega) (by omega)) rfl
   have z1 : wr.cell? ⟨gz, 45, none⟩ = some (.int .u8 0) := RI.out.2.2.1.b8 45 (obs_zero _ _ _ _ (by omega) (by omega)) rfl
   have z2 : wr.cell? ⟨gz, 46, none⟩ = some (.int .u8 0) := RI.out.2.2.1.b8 46 (obs_zero _ _ _ _ (by omega) (by omega)) rfl
   have z3 : wr.cell? ⟨gz, 47, none⟩ = some (.int .u8 0) := RI.out.2.2.1.b8 47 (obs_zero _ _ _ _ (by omega) (by omega)) rfl
   have f0 : wr.frozen? ⟨gz, 44, none⟩ = false := RI.out.2.2.1.free _
   have f1 : wr.frozen? ⟨gz, 45, none⟩ = false := RI.out.2.2.1.free _
   have f2 : wr.frozen? ⟨gz, 46, none⟩ = false := RI.out.2.2.1.free _
   have f3 : wr.frozen? ⟨gz, 47, none⟩ = false := RI.out.2.2.1.free _
   have ES := Lib.hid hS
   clear hS
   go_wp2_with fail
   go_region
   go_wp2_with fail
   clear c1 c2 rS z0 z1 z2 z3 f0 f1 f2 f3
   go_roundw
   case rel => exact ⟨12, by omega, rfl, Lib.hid (OutI.next 11 RI.out (by omega) EY.out EX.out EO.out LZ.out S (by rw [EA.out, EB.out]; exact ES.out))⟩
   case measure => simp [intOf]
  ·have c1 : wr.cell? ⟨gy, 12, none⟩ = some (.int .u32 (M.getD 12 0 : Nat)) := (RI.out.1 12 (by omega)).1
   have c2 : wr.cell? ⟨gx, 12, none⟩ = some (.int .u32 (L.getD 12 0 : Nat)) := RI.out.2.1.u32 12 (by rw [WF.out.1]; omega)
   generalize hA : M.getD 12 0 = A at c1
   generalize hB : L.getD 12 0 = B at c2
   have EA := Lib.hid hA
   have EB := Lib.hid hB
   clear hA hB
   have rS : ((A : Int) + (B : Int)) % 4294967296 = (((A + B) % 4294967296 : Nat) : Int) := by omega
   generalize hS : (A + B) % 4294967296 = S at rS
   have z0 : wr.cell? ⟨gz, 48, none⟩ = some (.int .u8 0) := RI.out.2.2.1.b8 48 (obs_zero _ _ _ _ (by omega) (by omega)) rfl
   have z1 : wr.cell? ⟨gz, 49, none⟩ = some (.int .u8 0) := RI.out.2.2.1.b8 49 (obs_zero _ _ _ _ (by omega) (by omega)) rfl
   have z2 : wr.cell? ⟨gz, 50, none⟩ = some (.int .u8 0) := RI.out.2.2.1.b8 50 (obs_zero _ _ _ _ (by omega) (by omega)) rfl
   have z3 : wr.cell? ⟨gz, 51, none⟩ = some (.int .u8 0) := RI.out.2.2.1.b8 51 (obs_zero _ _ _ _ (by omega) (by omega)) rfl
   have f0 : wr.frozen? ⟨gz, 48, none⟩ = false := RI.out.2.2.1.free _
   have f1 : wr.frozen? ⟨gz, 49, none⟩ = false := RI.out.2.2.1.free _
   have f2 : wr.frozen? ⟨gz, 50, none⟩ = false := RI.out.2.2.1.free _
   have f3 : wr.frozen? ⟨gz, 51, none⟩ = false := RI.out.2.2.1.free _
   have ES := Lib.hid hS
   clear hS
   go_wp2_with fail
   go_region
   go_wp2_with fail
   clear c1 c2 rS z0 z1 z2 z3 f0 f1 f2 f3
   go_roundw
   case rel => exact ⟨13, by omega, rfl, Lib.hid (OutI.next 12 RI.out (by omega) EY.out EX.out EO.out LZ.out S (by rw [EA.out, EB.out]; exact ES.out))⟩
   case measure => simp [intOf]
  ·have c1 : wr.cell? ⟨gy, 13, none⟩ = some (.int .u32 (M.getD 13 0 : Nat)) := (RI.out.1 13 (by omega)).1
   have c2 : wr.cell? ⟨gx, 13, none⟩ = some (.int .u32 (L.getD 13 0 : Nat)) := RI.out.2.1.u32 13 (by rw [WF.out.1]; omega)
   generalize hA : M.getD 13 0 = A at c1
   generalize hB : L.getD 13 0 = B at c2
   have EA := Lib.hid hA
   have EB := Lib.hid hB
   clear hA hB
   have rS : ((A : Int) + (B : Int)) % 4294967296 = (((A + B) % 4294967296 : Nat) : Int) := by omega
   generalize hS : (A + B) % 4294967296 = S at rS
   have z0 : wr.cell? ⟨gz, 52, none⟩ = some (.int .u8 0) := RI.out.2.2.1.b8 52 (obs_zero _ _ _ _ (by omega) (by omega)) rfl
   have z1 : wr.cell? ⟨gz, 53, none⟩ = some (.int .u8 0) := RI.out.2.2.1.b8 53 (obs_zero _ _ _ _ (by omega) (by omega)) rfl
   have z2 : wr.cell? ⟨gz, 54, none⟩ = some (.int .u8 0) := RI.out.2.2.1.b8 54 (obs_zero _ _ _ _ (by omega) (by omega)) rfl
   have z3 : wr.cell? ⟨gz, 55, none⟩ = some (.int .u8 0) := RI.out.2.2.1.b8 55 (obs_zero _ _ _ _ (by omega) (by omega)) rfl
   have f0 : wr.frozen? ⟨gz, 52, none⟩ = false := RI.out.2.2.1.free _
   have f1 : wr.frozen? ⟨gz, 53, none⟩ = false := RI.out.2.2.1.free _
   have f2 : wr.frozen? ⟨gz, 54, none⟩ = false := RI.out.2.2.1.free _
   have f3 : wr.frozen? ⟨gz, 55, none⟩ = false := RI.out.2.2.1.free _
   have ES := Lib.hid hS
   clear hS
   go_wp2_with fail
   go_region
   go_wp2_with fail
   clear c1 c2 rS z0 z1 z2 z3 f0 f1 f2 f3
   go_roundw
   case rel => exact ⟨14, by omega, rfl, Lib.hid (OutI.next 13 RI.out (by omega) EY.out EX.out EO.out LZ.out S (by rw [EA.out, EB.out]; exact ES.out))⟩
   case measure => simp [intOf]
  ·have c1 : wr.cell? ⟨gy, 14, none⟩ = some (.int .u32 (M.getD 14 0 : Nat)) := (RI.out.1 14 (by omega)).1
   have c2 : wr.cell? ⟨gx, 14, none⟩ = some (.int .u32 (L.getD 14 0 : Nat)) := RI.out.2.1.u32 14 (by rw [WF.out.1]; omega)
   generalize hA : M.getD 14 0 = A at c1
   generalize hB : L.getD 14 0 = B at c2
   have EA := Lib.hid hA
   have EB := Lib.hid hB
   clear hA hB
   have rS : ((A : Int) + (B : Int)) % 4294967296 = (((A + B) % 4294967296 : Nat) : Int) := by omega
   generalize hS : (A + B) % 4294967296 = S at rS
   have z0 : wr.cell? ⟨gz, 56, none⟩ = some (.int .u8 0) := RI.out.2.2.1.b8 56 (obs_zero _ _ _ _ (by omega) (by omega)) rfl
   have z1 : wr.cell? ⟨gz, 57, none⟩ = some (.int .u8 0) := RI.out.2.2.1.b8 57 (obs_zero _ _ _ _ (by omega) (by omega)) rfl
   have z2 : wr.cell? ⟨gz, 58, none⟩ = some (.int .u8 0) := RI.out.2.2.1.b8 58 (obs_zero _ _ _ _ (by omega) (by omega)) rfl
   have z3 : wr.cell? ⟨gz, 59, none⟩ = some (.int .u8 0) := RI.out.2.2.1.b8 59 (obs_zero _ _ _ _ (by omega) (by omega)) rfl
   have f0 : wr.frozen? ⟨gz, 56, none⟩ = false := RI.out.2.2.1.free _
   have f1 : wr.frozen? ⟨gz, 57, none⟩ = false := RI.out.2.2.1.free _
   have f2 : wr.frozen? ⟨gz, 58, none⟩ = false := RI.out.2.2.1.free _
   have f3 : wr.frozen? ⟨gz, 59, none⟩ = false := RI.out.2.2.1.free _
   have ES := Lib.hid hS
   clear hS
   go_wp2_with fail
   go_region
   go_wp2_with fail
   clear c1 c2 rS z0 z1 z2 z3 f0 f1 f2 f3
   go_roundw
   case rel => exact ⟨15, by omega, rfl, Lib.hid (OutI.next 14 RI.out (by omega) EY.out EX.out EO.out LZ.out S (by rw [EA.out, EB.out]; exact ES.out))⟩
   case measure => simp [intOf]
  ·have c1 : wr.cell? ⟨gy, 15, none⟩ = some (.int .u32 (M.getD 15 0 : Nat)) := (RI.out.1 15 (by omega)).1
   have c2 : wr.cell? ⟨gx, 15, none⟩ = some (.int .u32 (L.getD 15 0 : Nat)) := RI.out.2.1.u32 15 (by rw [WF.out.1]; omega)
   generalize hA : M.getD 15 0 = A at c1
   generalize hB : L.getD 15 0 = B at c2
   have EA := Lib.hid hA
   have EB := Lib.hid hB
   clear hA hB
   have rS : ((A : Int) + (B : Int)) % 4294967296 = (((A + B) % 4294967296 : Nat) : Int) := by omega
   generalize hS : (A + B) % 4294967296 = S at rS
   have z0 : wr.cell? ⟨gz, 60, none⟩ = some (.int .u8 0) := RI.out.2.2.1.b8 60 (obs_zero _ _ _ _ (by omega) (by omega)) rfl
   have z1 : wr.cell? ⟨gz, 61, none⟩ = some (.int .u8 0) := RI.out.2.2.1.b8 61 (obs_zero _ _ _ _ (by omega) (by omega)) rfl
   have z2 : wr.cell? ⟨gz, 62, none⟩ = some (.int .u8 0) := RI.out.2.2.1.b8 62 (obs_zero _ _ _ _ (by omega) (by omega)) rfl
   have z3 : wr.cell? ⟨gz, 63, none⟩ = some (.int .u8 0) := RI.out.2.2.1.b8 63 (obs_zero _ _ _ _ (by omega) (by omega)) rfl
   have f0 : wr.frozen? ⟨gz, 60, none⟩ = false := RI.out.2.2.1.free _
   have f1 : wr.frozen? ⟨gz, 61, none⟩ = false := RI.out.2.2.1.free _
   have f2 : wr.frozen? ⟨gz, 62, none⟩ = false := RI.out.2.2.1.free _
   have f3 : wr.frozen? ⟨gz, 63, none⟩ = false := RI.out.2.2.1.free _
   have ES := Lib.hid hS
   clear hS
   go_wp2_with fail
   go_region
   go_wp2_with fail
   clear c1 c2 rS z0 z1 z2 z3 f0 f1 f2 f3
   go_roundw
   case rel => exact ⟨16, by omega, rfl, Lib.hid (OutI.next 15 RI.out (by omega) EY.out EX.out EO.out LZ.out S (by rw [EA.out, EB.out]; exact ES.out))⟩
   case measure => simp [intOf]
  ·obtain ⟨RX, RF, RZ, RO, BW⟩ := RI.out
   have hz : (Tryd.prog.info? 53).map (·.size) = some (u8b (obs L M 16)).size := by rw [obs_size]; kernel_rfl
   have hZ := Lib.hid hz
   clear hz
   have hs : (#[.int .u8 0, .int .u8 0, .int .u8 0, .int .u8 0, .int .u8 0, .int .u8 0, .int .u8 0, .int .u8 0, .int .u8 0, .int .u8 0, .int .u8 0, .int .u8 0, .int .u8 0, .int .u8 0, .int .u8 0, .int .u8 0, .int .u8 0, .int .u8 0, .int .u8 0, .int .u8 0, .int .u8 0, .int .u8 0, .int .u8 0, .int .u8 0, .int .u8 0, .int .u8 0, .int .u8 0, .int .u8 0, .int .u8 0, .int .u8 0, .int .u8 0, .int .u8 0, .int .u8 0, .int .u8 0, .int .u8 0, .int .u8 0, .int .u8 0, .int .u8 0, .int .u8 0, .int .u8 0, .int .u8 0, .int .u8 0, .int .u8 0, .int .u8 0, .int .u8 0, .int .u8 0, .int .u8 0, .int .u8 0, .int .u8 0, .int .u8 0, .int .u8 0, .int .u8 0, .int .u8 0, .int .u8 0, .int .u8 0, .int .u8 0, .int .u8 0, .int .u8 0, .int .u8 0, .int .u8 0, .int .u8 0, .int .u8 0, .int .u8 0, .int .u8 0] : Array Value).size = (u8b (obs L M 16)).size := by rw [obs_size]; rfl
   have hS := Lib.hid hs
   clear hs RX RF
   have RZ' := Lib.hid RZ
   have RO' := Lib.hid RO
   have BW' := Lib.hid BW
   clear RZ RO BW
   go_wp2_with (first | (refine wpList_load_row rfl 53 _ rfl gz rfl 53 _ (0, 0) _ RZ'.out Tryd.underlying53 rfl hZ.out ?_) | (refine wpList_store_row rfl 53 _ _ rfl gO _ rfl rfl 53 _ RO'.out hZ.out hS.out (u8b_one _) ?_))
   refine bodyPost_ret (results_cell_row rfl _ _ gO 53 _ (0, 0) _ rfl (setRow_heap _ _ _ _ _ _ RO'.out) Tryd.underlying53 rfl (by rw [obs_size]; kernel_rfl)) rfl ⟨?_, ?_⟩
   ·rw [EL.out, EM.out]
   ·rw [EK.out]; exact below_setRow BW'.out LO.out _
end Go.Proofs.YtlbfohpkngmaoaaDoor.Ch
