import Derived.Test.YtlbfohpkngmaoaaDoorChC7
import Derived.Test.YtlbfohpkngmaoaaDoorChC4
import Derived.Test.YtlbfohpkngmaoaaDoorChC6H
import Derived.Deep.LoopGhost
namespace Go.Proofs.YtlbfohpkngmaoaaDoor.Ch
open Go.RowKit
theorem i46 (L : List Nat) (h : W16 L) : (Tryd.prog.info? 77).map (·.size) = some (u32s L).size := by rw [u32s_size, h.1]; kernel_rfl
theorem s46 {L M : List Nat} (h : W16 L) (k : W16 M) : (u32s L).size = (u32s M).size := by rw [u32s_size, u32s_size, h.1, k.1]
theorem Blk.below {w w' : World} {g t : Nat} {cs : Array Value} (h : Blk w g t cs) (b : Below w.heap.size w w') : Blk w' g t cs := (b.block g h.lt).trans h
def obs1 (L M : List Nat) (n : Nat) : List Nat := (List.range 64).map fun i => if i < n then ob L M i else 0
theorem obs1_zero (L M : List Nat) (n i : Nat) (hi : i < 64) (h : ¬ i < n) : (obs1 L M n)[i]? = some 0 := by
 unfold obs1
 rw [List.getElem?_map, List.getElem?_range hi, Option.map_some, if_neg h]
theorem obs1_next (L M : List Nat) (n x : Nat) (hx : x = ob L M n) : (obs1 L M n).set n x = obs1 L M (n + 1) := by
 unfold obs1
 rw [map_set]
 apply List.map_congr_left
 intro i _
 by_cases h0 : n = i
 ·subst h0; rw [if_pos rfl, if_pos (by omega), hx]
 rw [if_neg h0]
 by_cases hi : i < n
 ·rw [if_pos hi, if_pos (by omega)]
 ·rw [if_neg hi, if_neg (by omega)]
theorem obs1_all (L M : List Nat) : obs1 L M 64 = obs L M 16 := by
 unfold obs1 obs
 apply List.map_congr_left
 intro i hi
 have := List.mem_range.mp hi
 rw [if_pos this, if_pos (by omega)]
theorem ob0 (L M : List Nat) (j S : Nat) (hS : (M.getD j 0 + L.getD j 0) % 4294967296 = S) : (S : Int) % 256 = ((ob L M (4 * j + 0) : Nat) : Int) := by
 have hlt : S < 4294967296 := by omega
 rw [ob, show (4 * j + 0) / 4 = j by omega, show (4 * j + 0) % 4 = 0 by omega, hS]; simp only [Nat.pow_zero, Nat.reducePow]; omega
theorem ob1 (L M : List Nat) (j S : Nat) (hS : (M.getD j 0 + L.getD j 0) % 4294967296 = S) : (S : Int) / 256 % 256 = ((ob L M (4 * j + 1) : Nat) : Int) := by
 have hlt : S < 4294967296 := by omega
 rw [ob, show (4 * j + 1) / 4 = j by omega, show (4 * j + 1) % 4 = 1 by omega, hS]; simp only [Nat.pow_zero, Nat.reducePow]; omega
theorem ob2 (L M : List Nat) (j S : Nat) (hS : (M.getD j 0 + L.getD j 0) % 4294967296 = S) : (S : Int) / 65536 % 256 = ((ob L M (4 * j + 2) : Nat) : Int) := by
 have hlt : S < 4294967296 := by omega
 rw [ob, show (4 * j + 2) / 4 = j by omega, show (4 * j + 2) % 4 = 2 by omega, hS]; simp only [Nat.pow_zero, Nat.reducePow]; omega
theorem ob3 (L M : List Nat) (j S : Nat) (hS : (M.getD j 0 + L.getD j 0) % 4294967296 = S) : (S : Int) / 16777216 = ((ob L M (4 * j + 3) : Nat) : Int) := by
 have hlt : S < 4294967296 := by omega
 rw [ob, show (4 * j + 3) / 4 = j by omega, show (4 * j + 3) % 4 = 3 by omega, hS]; simp only [Nat.pow_zero, Nat.reducePow]; omega
def OutR (gy gx gz g6 gk : Nat) (L M : List Nat) (w : World) (k : Nat) (wr : World) : Prop :=
 Blk wr gy 77 (u32s M) ∧ Blk wr gx 77 (u32s L) ∧ Blk wr gz 53 (u8b (obs1 L M k)) ∧ Blk wr g6 53 #[.int .u8 0, .int .u8 0, .int .u8 0, .int .u8 0, .int .u8 0, .int .u8 0, .int .u8 0, .int .u8 0, .int .u8 0, .int .u8 0, .int .u8 0, .int .u8 0, .int .u8 0, .int .u8 0, .int .u8 0, .int .u8 0, .int .u8 0, .int .u8 0, .int .u8 0, .int .u8 0, .int .u8 0, .int .u8 0, .int .u8 0, .int .u8 0, .int .u8 0, .int .u8 0, .int .u8 0, .int .u8 0, .int .u8 0, .int .u8 0, .int .u8 0, .int .u8 0, .int .u8 0, .int .u8 0, .int .u8 0, .int .u8 0, .int .u8 0, .int .u8 0, .int .u8 0, .int .u8 0, .int .u8 0, .int .u8 0, .int .u8 0, .int .u8 0, .int .u8 0, .int .u8 0, .int .u8 0, .int .u8 0, .int .u8 0, .int .u8 0, .int .u8 0, .int .u8 0, .int .u8 0, .int .u8 0, .int .u8 0, .int .u8 0, .int .u8 0, .int .u8 0, .int .u8 0, .int .u8 0, .int .u8 0, .int .u8 0, .int .u8 0, .int .u8 0] ∧ Below gk w wr
theorem OutR.next {gy gx gz g6 gk : Nat} {L M : List Nat} {w wr : World} (n : Nat) (h : OutR gy gx gz g6 gk L M w n wr) (ey : gy ≠ gz) (ex : gx ≠ gz) (eo : g6 ≠ gz) (lz : gk ≤ gz) (x : Int) (hx : x = ((ob L M n : Nat) : Int)) :
  OutR gy gx gz g6 gk L M w (n + 1) (wr.setCell ⟨gz, n, none⟩ (.int .u8 x)).drew := by
 obtain ⟨ry, rx, rz, ro, bw⟩ := h
 have OU := Ot.drew (ot1 gz n wr (.int .u8 x))
 exact ⟨OU.blk ry ey, OU.blk rx ex, by rw [← obs1_next L M n (ob L M n) rfl]; exact Blk.drew (rz.set8 _ _ _ hx), OU.blk ro eo, OU.below bw lz⟩
set_option maxHeartbeats 8000000 in
theorem refblock_any (X Y : Nat → Nat) (c : Nat) (bX : ∀ j, X j < 256) (bY : ∀ j, Y j < 256) (hc : c < 4294967296) (w : World) :
  Calls Tryd.prog 27 #[.agg (u8s 32 X), .agg (u8s 12 Y), .int .u32 (c : Int)] w fun e w' => e = .returned (.agg (u8b (obs [1634760805, 857760878, 2036477234, 1797285236, (le4 (X 0) (X 1) (X 2) (X 3)), (le4 (X 4) (X 5) (X 6) (X 7)), (le4 (X 8) (X 9) (X 10) (X 11)), (le4 (X 12) (X 13) (X 14) (X 15)), (le4 (X 16) (X 17) (X 18) (X 19)), (le4 (X 20) (X 21) (X 22) (X 23)), (le4 (X 24) (X 25) (X 26) (X 27)), (le4 (X 28) (X 29) (X 30) (X 31)), c, (le4 (Y 0) (Y 1) (Y 2) (Y 3)), (le4 (Y 4) (Y 5) (Y 6) (Y 7)), (le4 (Y 8) (Y 9) (Y 10) (Y 11))] (drounds 10 [1634760805, 857760878, 2036477234, 1797285236, (le4 (X 0) (X 1) (X 2) (X 3)), (le4 (X 4) (X 5) (X 6) (X 7)), (le4 (X 8) (X 9) (X 10) (X 11)), (le4 (X 12) (X 13) (X 14) (X 15)), (le4 (X 16) (X 17) (X 18) (X 19)), (le4 (X 20) (X 21) (X 22) (X 23)), (le4 (X 24) (X 25) (X 26) (X 27)), (le4 (X 28) (X 29) (X 30) (X 31)), c, (le4 (Y 0) (Y 1) (Y 2) (Y 3)), (le4 (Y 4) (Y 5) (Y 6) (Y 7)), (le4 (Y 8) (Y 9) (Y 10) (Y 11))]) 16))) ∧ Below w.heap.size w w' := by
 have BX := Lib.hid bX
 have BY := Lib.hid bY
 clear bX bY
 go_enter Tryd.func27, Tryd.ntmps27
 go_wp2_with fail
 obtain ⟨W0, hW0⟩ : ∃ W0, W0 = (((w.alloc (.cells (u8s 32 X) 22)).alloc (.cells (u8s 12 Y) 27)).alloc (.cells #[.int .u8 0, .int .u8 0, .int .u8 0, .int .u8 0, .int .u8 0, .int .u8 0, .int .u8 0, .int .u8 0, .int .u8 0, .int .u8 0, .int .u8 0, .int .u8 0, .int .u8 0, .int .u8 0, .int .u8 0, .int .u8 0, .int .u8 0, .int .u8 0, .int .u8 0, .int .u8 0, .int .u8 0, .int .u8 0, .int .u8 0, .int .u8 0, .int .u8 0, .int .u8 0, .int .u8 0, .int .u8 0, .int .u8 0, .int .u8 0, .int .u8 0, .int .u8 0, .int .u8 0, .int .u8 0, .int .u8 0, .int .u8 0, .int .u8 0, .int .u8 0, .int .u8 0, .int .u8 0, .int .u8 0, .int .u8 0, .int .u8 0, .int .u8 0, .int .u8 0, .int .u8 0, .int .u8 0, .int .u8 0, .int .u8 0, .int .u8 0, .int .u8 0, .int .u8 0, .int .u8 0, .int .u8 0, .int .u8 0, .int .u8 0, .int .u8 0, .int .u8 0, .int .u8 0, .int .u8 0, .int .u8 0, .int .u8 0, .int .u8 0, .int .u8 0] 53)).alloc (.cells #[.int .u32 1634760805, .int .u32 857760878, .int .u32 2036477234, .int .u32 1797285236, .int .u32 0, .int .u32 0, .int .u32 0, .int .u32 0, .int .u32 0, .int .u32 0, .int .u32 0, .int .u32 0, .int .u32 0, .int .u32 0, .int .u32 0, .int .u32 0] 77) := ⟨_, rfl⟩
 rw [← hW0]
 have r4 := blk0 w (u8s 32 X) (u8s 12 Y) #[.int .u8 0, .int .u8 0, .int .u8 0, .int .u8 0, .int .u8 0, .int .u8 0, .int .u8 0, .int .u8 0, .int .u8 0, .int .u8 0, .int .u8 0, .int .u8 0, .int .u8 0, .int .u8 0, .int .u8 0, .int .u8 0, .int .u8 0, .int .u8 0, .int .u8 0, .int .u8 0, .int .u8 0, .int .u8 0, .int .u8 0, .int .u8 0, .int .u8 0, .int .u8 0, .int .u8 0, .int .u8 0, .int .u8 0, .int .u8 0, .int .u8 0, .int .u8 0, .int .u8 0, .int .u8 0, .int .u8 0, .int .u8 0, .int .u8 0, .int .u8 0, .int .u8 0, .int .u8 0, .int .u8 0, .int .u8 0, .int .u8 0, .int .u8 0, .int .u8 0, .int .u8 0, .int .u8 0, .int .u8 0, .int .u8 0, .int .u8 0, .int .u8 0, .int .u8 0, .int .u8 0, .int .u8 0, .int .u8 0, .int .u8 0, .int .u8 0, .int .u8 0, .int .u8 0, .int .u8 0, .int .u8 0, .int .u8 0, .int .u8 0, .int .u8 0] #[.int .u32 1634760805, .int .u32 857760878, .int .u32 2036477234, .int .u32 1797285236, .int .u32 0, .int .u32 0, .int .u32 0, .int .u32 0, .int .u32 0, .int .u32 0, .int .u32 0, .int .u32 0, .int .u32 0, .int .u32 0, .int .u32 0, .int .u32 0] 22 27 53 77
 rw [← hW0] at r4
 obtain ⟨rk, rn, rz, rx'⟩ := r4
 have rx : Blk W0 (w.heap.size + 1 + 1 + 1) 77 (u32s [1634760805, 857760878, 2036477234, 1797285236, 0, 0, 0, 0, 0, 0, 0, 0, 0, 0, 0, 0]) := rx'
 clear rx'
 have bw : Below w.heap.size w W0 := by
  rw [hW0]
  repeat (first | exact Below.refl _ _ | refine below_alloc' ?_ (Nat.le_refl _) _)
 have sz : W0.heap.size = w.heap.size + 1 + 1 + 1 + 1 := by rw [hW0]; simp
 have d0 : w.heap.size ≠ w.heap.size + 1 + 1 + 1 := by omega
 have d1 : w.heap.size + 1 ≠ w.heap.size + 1 + 1 + 1 := by omega
 have d2 : w.heap.size + 1 + 1 ≠ w.heap.size + 1 + 1 + 1 := by omega
 have d3 : w.heap.size ≤ w.heap.size + 1 + 1 + 1 := by omega
 have d4 : w.heap.size ≤ w.heap.size + 1 + 1 := by omega
 have RK := Lib.hid rk
 have RN := Lib.hid rn
 have RZ := Lib.hid rz
 have RX := Lib.hid rx
 have BW := Lib.hid bw
 have D0 := Lib.hid d0
 have D1 := Lib.hid d1
 have D2 := Lib.hid d2
 have D3 := Lib.hid d3
 have D4 := Lib.hid d4
 clear hW0 rk rn rz rx bw d0 d1 d2 d3 d4
 generalize w.heap.size + 1 + 1 + 1 = gx at *
 generalize w.heap.size + 1 + 1 = g6 at *
 generalize w.heap.size + 1 = gn at *
 generalize hgk : w.heap.size = gk at *
 have EK := Lib.hid hgk
 have SZ := Lib.hid sz
 clear hgk sz
 refine wp_loop_rounds 9 ?_
 rw [rounds_succ]
 go_wp2_with fail
 refine (rword_any _ gk 0 _ _ _ _ _ _ (RK.out.u8 0 (by omega)) (RK.out.u8 1 (by omega)) (RK.out.u8 2 (by omega)) (RK.out.u8 3 (by omega)) (by omega) (BX.out _) (BX.out _) (BX.out _) (BX.out _)).mono ?_
 rintro e w' ⟨rfl, m, rfl⟩
 have cx : (W0.drewN m).cell? ⟨gx, 4, none⟩ = some (.int .u32 0) := RX.out.u32 4 (by simp)
 have fx : (W0.drewN m).frozen? ⟨gx, 4, none⟩ = false := RX.out.free 4
 go_wp2_with fail
 clear cx fx
 obtain ⟨W1, hW⟩ : ∃ V, V = (W0.drewN m).setCell ⟨gx, 4, none⟩ (.int .u32 (((le4 (X 0) (X 1) (X 2) (X 3)) : Nat) : Int)) := ⟨_, rfl⟩
 rw [← hW]
 replace RK : Hid (Blk W1 gk 22 (u8s 32 X)) := Lib.hid (by rw [hW]; exact RK.out.far D0.out 4 m _)
 replace RN : Hid (Blk W1 gn 27 (u8s 12 Y)) := Lib.hid (by rw [hW]; exact RN.out.far D1.out 4 m _)
 replace RZ : Hid (Blk W1 g6 53 #[.int .u8 0, .int .u8 0, .int .u8 0, .int .u8 0, .int .u8 0, .int .u8 0, .int .u8 0, .int .u8 0, .int .u8 0, .int .u8 0, .int .u8 0, .int .u8 0, .int .u8 0, .int .u8 0, .int .u8 0, .int .u8 0, .int .u8 0, .int .u8 0, .int .u8 0, .int .u8 0, .int .u8 0, .int .u8 0, .int .u8 0, .int .u8 0, .int .u8 0, .int .u8 0, .int .u8 0, .int .u8 0, .int .u8 0, .int .u8 0, .int .u8 0, .int .u8 0, .int .u8 0, .int .u8 0, .int .u8 0, .int .u8 0, .int .u8 0, .int .u8 0, .int .u8 0, .int .u8 0, .int .u8 0, .int .u8 0, .int .u8 0, .int .u8 0, .int .u8 0, .int .u8 0, .int .u8 0, .int .u8 0, .int .u8 0, .int .u8 0, .int .u8 0, .int .u8 0, .int .u8 0, .int .u8 0, .int .u8 0, .int .u8 0, .int .u8 0, .int .u8 0, .int .u8 0, .int .u8 0, .int .u8 0, .int .u8 0, .int .u8 0, .int .u8 0]) := Lib.hid (by rw [hW]; exact RZ.out.far D2.out 4 m _)
 replace RX : Hid (Blk W1 gx 77 (u32s [1634760805, 857760878, 2036477234, 1797285236, (le4 (X 0) (X 1) (X 2) (X 3)), 0, 0, 0, 0, 0, 0, 0, 0, 0, 0, 0])) := Lib.hid (by rw [hW]; exact RX.out.set32 4 m (le4 (X 0) (X 1) (X 2) (X 3)))
 replace BW : Hid (Below gk w W1) := Lib.hid (by rw [hW]; exact below_set BW.out D3.out 4 m _)
 replace SZ : Hid (W1.heap.size = gx + 1) := Lib.hid (by rw [hW]; simp; exact SZ.out)
 clear hW
 rw [rounds_succ]
 go_wp2_with fail
 refine (rword_any _ gk 4 _ _ _ _ _ _ (RK.out.u8 4 (by omega)) (RK.out.u8 5 (by omega)) (RK.out.u8 6 (by omega)) (RK.out.u8 7 (by omega)) (by omega) (BX.out _) (BX.out _) (BX.out _) (BX.out _)).mono ?_
 rintro e w' ⟨rfl, m, rfl⟩
 have cx : (W1.drewN m).cell? ⟨gx, 5, none⟩ = some (.int .u32 0) := RX.out.u32 5 (by simp)
 have fx : (W1.drewN m).frozen? ⟨gx, 5, none⟩ = false := RX.out.free 5
 go_wp2_with fail
 clear cx fx
 obtain ⟨W2, hW⟩ : ∃ V, V = (W1.drewN m).setCell ⟨gx, 5, none⟩ (.int .u32 (((le4 (X 4) (X 5) (X 6) (X 7)) : Nat) : Int)) := ⟨_, rfl⟩
 rw [← hW]
 replace RK : Hid (Blk W2 gk 22 (u8s 32 X)) := Lib.hid (by rw [hW]; exact RK.out.far D0.out 5 m _)
 replace RN : Hid (Blk W2 gn 27 (u8s 12 Y)) := Lib.hid (by rw [hW]; exact RN.out.far D1.out 5 m _)
 replace RZ : Hid (Blk W2 g6 53 #[.int .u8 0, .int .u8 0, .int .u8 0, .int .u8 0, .int .u8 0, .int .u8 0, .int .u8 0, .int .u8 0, .int .u8 0, .int .u8 0, .int .u8 0, .int .u8 0, .int .u8 0, .int .u8 0, .int .u8 0, .int .u8 0, .int .u8 0, .int .u8 0, .int .u8 0, .int .u8 0, .int .u8 0, .int .u8 0, .int .u8 0, .int .u8 0, .int .u8 0, .int .u8 0, .int .u8 0, .int .u8 0, .int .u8 0, .int .u8 0, .int .u8 0, .int .u8 0, .int .u8 0, .int .u8 0, .int .u8 0, .int .u8 0, .int .u8 0, .int .u8 0, .int .u8 0, .int .u8 0, .int .u8 0, .int .u8 0, .int .u8 0, .int .u8 0, .int .u8 0, .int .u8 0, .int .u8 0, .int .u8 0, .int .u8 0, .int .u8 0, .int .u8 0, .int .u8 0, .int .u8 0, .int .u8 0, .int .u8 0, .int .u8 0, .int .u8 0, .int .u8 0, .int .u8 0, .int .u8 0, .int .u8 0, .int .u8 0, .int .u8 0, .int .u8 0]) := Lib.hid (by rw [hW]; exact RZ.out.far D2.out 5 m _)
 replace RX : Hid (Blk W2 gx 77 (u32s [1634760805, 857760878, 2036477234, 1797285236, (le4 (X 0) (X 1) (X 2) (X 3)), (le4 (X 4) (X 5) (X 6) (X 7)), 0, 0, 0, 0, 0, 0, 0, 0, 0, 0])) := Lib.hid (by rw [hW]; exact RX.out.set32 5 m (le4 (X 4) (X 5) (X 6) (X 7)))
 replace BW : Hid (Below gk w W2) := Lib.hid (by rw [hW]; exact below_set BW.out D3.out 5 m _)
 replace SZ : Hid (W2.heap.size = gx + 1) := Lib.hid (by rw [hW]; simp; exact SZ.out)
 clear hW
 rw [rounds_succ]
 go_wp2_with fail
 refine (rword_any _ gk 8 _ _ _ _ _ _ (RK.out.u8 8 (by omega)) (RK.out.u8 9 (by omega)) (RK.out.u8 10 (by omega)) (RK.out.u8 11 (by omega)) (by omega) (BX.out _) (BX.out _) (BX.out _) (BX.out _)).mono ?_
 rintro e w' ⟨rfl, m, rfl⟩
 have cx : (W2.drewN m).cell? ⟨gx, 6, none⟩ = some (.int .u32 0) := RX.out.u32 6 (by simp)
 have fx : (W2.drewN m).frozen? ⟨gx, 6, none⟩ = false := RX.out.free 6
 go_wp2_with fail
 clear cx fx
 obtain ⟨W3, hW⟩ : ∃ V, V = (W2.drewN m).setCell ⟨gx, 6, none⟩ (.int .u32 (((le4 (X 8) (X 9) (X 10) (X 11)) : Nat) : Int)) := ⟨_, rfl⟩
 rw [← hW]
 replace RK : Hid (Blk W3 gk 22 (u8s 32 X)) := Lib.hid (by rw [hW]; exact RK.out.far D0.out 6 m _)
 replace RN : Hid (Blk W3 gn 27 (u8s 12 Y)) := Lib.hid (by rw [hW]; exact RN.out.far D1.out 6 m _)
 replace RZ : Hid (Blk W3 g6 53 #[.int .u8 0, .int .u8 0, .int .u8 0, .int .u8 0, .int .u8 0, .int .u8 0, .int .u8 0, .int .u8 0, .int .u8 0, .int .u8 0, .int .u8 0, .int .u8 0, .int .u8 0, .int .u8 0, .int .u8 0, .int .u8 0, .int .u8 0, .int .u8 0, .int .u8 0, .int .u8 0, .int .u8 0, .int .u8 0, .int .u8 0, .int .u8 0, .int .u8 0, .int .u8 0, .int .u8 0, .int .u8 0, .int .u8 0, .int .u8 0, .int .u8 0, .int .u8 0, .int .u8 0, .int .u8 0, .int .u8 0, .int .u8 0, .int .u8 0, .int .u8 0, .int .u8 0, .int .u8 0, .int .u8 0, .int .u8 0, .int .u8 0, .int .u8 0, .int .u8 0, .int .u8 0, .int .u8 0, .int .u8 0, .int .u8 0, .int .u8 0, .int .u8 0, .int .u8 0, .int .u8 0, .int .u8 0, .int .u8 0, .int .u8 0, .int .u8 0, .int .u8 0, .int .u8 0, .int .u8 0, .int .u8 0, .int .u8 0, .int .u8 0, .int .u8 0]) := Lib.hid (by rw [hW]; exact RZ.out.far D2.out 6 m _)
 replace RX : Hid (Blk W3 gx 77 (u32s [1634760805, 857760878, 2036477234, 1797285236, (le4 (X 0) (X 1) (X 2) (X 3)), (le4 (X 4) (X 5) (X 6) (X 7)), (le4 (X 8) (X 9) (X 10) (X 11)), 0, 0, 0, 0, 0, 0, 0, 0, 0])) := Lib.hid (by rw [hW]; exact RX.out.set32 6 m (le4 (X 8) (X 9) (X 10) (X 11)))
 replace BW : Hid (Below gk w W3) := Lib.hid (by rw [hW]; exact below_set BW.out D3.out 6 m _)
 replace SZ : Hid (W3.heap.size = gx + 1) := Lib.hid (by rw [hW]; simp; exact SZ.out)
 clear hW
 rw [rounds_succ]
 go_wp2_with fail
 refine (rword_any _ gk 12 _ _ _ _ _ _ (RK.out.u8 12 (by omega)) (RK.out.u8 13 (by omega)) (RK.out.u8 14 (by omega)) (RK.out.u8 15 (by omega)) (by omega) (BX.out _) (BX.out _) (BX.out _) (BX.out _)).mono ?_
 rintro e w' ⟨rfl, m, rfl⟩
 have cx : (W3.drewN m).cell? ⟨gx, 7, none⟩ = some (.int .u32 0) := RX.out.u32 7 (by simp)
 have fx : (W3.drewN m).frozen? ⟨gx, 7, none⟩ = false := RX.out.free 7
 go_wp2_with fail
 clear cx fx
 obtain ⟨W4, hW⟩ : ∃ V, V = (W3.drewN m).setCell ⟨gx, 7, none⟩ (.int .u32 (((le4 (X 12) (X 13) (X 14) (X 15)) : Nat) : Int)) := ⟨_, rfl⟩
 rw [← hW]
 replace RK : Hid (Blk W4 gk 22 (u8s 32 X)) := Lib.hid (by rw [hW]; exact RK.out.far D0.out 7 m _)
 replace RN : Hid (Blk W4 gn 27 (u8s 12 Y)) := Lib.hid (by rw [hW]; exact RN.out.far D1.out 7 m _)
 replace RZ : Hid (Blk W4 g6 53 #[.int .u8 0, .int .u8 0, .int .u8 0, .int .u8 0, .int .u8 0, .int .u8 0, .int .u8 0, .int .u8 0, .int .u8 0, .int .u8 0, .int .u8 0, .int .u8 0, .int .u8 0, .int .u8 0, .int .u8 0, .int .u8 0, .int .u8 0, .int .u8 0, .int .u8 0, .int .u8 0, .int .u8 0, .int .u8 0, .int .u8 0, .int .u8 0, .int .u8 0, .int .u8 0, .int .u8 0, .int .u8 0, .int .u8 0, .int .u8 0, .int .u8 0, .int .u8 0, .int .u8 0, .int .u8 0, .int .u8 0, .int .u8 0, .int .u8 0, .int .u8 0, .int .u8 0, .int .u8 0, .int .u8 0, .int .u8 0, .int .u8 0, .int .u8 0, .int .u8 0, .int .u8 0, .int .u8 0, .int .u8 0, .int .u8 0, .int .u8 0, .int .u8 0, .int .u8 0, .int .u8 0, .int .u8 0, .int .u8 0, .int .u8 0, .int .u8 0, .int .u8 0, .int .u8 0, .int .u8 0, .int .u8 0, .int .u8 0, .int .u8 0, .int .u8 0]) := Lib.hid (by rw [hW]; exact RZ.out.far D2.out 7 m _)
 replace RX : Hid (Blk W4 gx 77 (u32s [1634760805, 857760878, 2036477234, 1797285236, (le4 (X 0) (X 1) (X 2) (X 3)), (le4 (X 4) (X 5) (X 6) (X 7)), (le4 (X 8) (X 9) (X 10) (X 11)), (le4 (X 12) (X 13) (X 14) (X 15)), 0, 0, 0, 0, 0, 0, 0, 0])) := Lib.hid (by rw [hW]; exact RX.out.set32 7 m (le4 (X 12) (X 13) (X 14) (X 15)))
 replace BW : Hid (Below gk w W4) := Lib.hid (by rw [hW]; exact below_set BW.out D3.out 7 m _)
 replace SZ : Hid (W4.heap.size = gx + 1) := Lib.hid (by rw [hW]; simp; exact SZ.out)
 clear hW
 rw [rounds_succ]
 go_wp2_with fail
 refine (rword_any _ gk 16 _ _ _ _ _ _ (RK.out.u8 16 (by omega)) (RK.out.u8 17 (by omega)) (RK.out.u8 18 (by omega)) (RK.out.u8 19 (by omega)) (by omega) (BX.out _) (BX.out _) (BX.out _) (BX.out _)).mono ?_
 rintro e w' ⟨rfl, m, rfl⟩
 have cx : (W4.drewN m).cell? ⟨gx, 8, none⟩ = some (.int .u32 0) := RX.out.u32 8 (by simp)
 have fx : (W4.drewN m).frozen? ⟨gx, 8, none⟩ = false := RX.out.free 8
 go_wp2_with fail
 clear cx fx
 obtain ⟨W5, hW⟩ : ∃ V, V = (W4.drewN m).setCell ⟨gx, 8, none⟩ (.int .u32 (((le4 (X 16) (X 17) (X 18) (X 19)) : Nat) : Int)) := ⟨_, rfl⟩
 rw [← hW]
 replace RK : Hid (Blk W5 gk 22 (u8s 32 X)) := Lib.hid (by rw [hW]; exact RK.out.far D0.out 8 m _)
 replace RN : Hid (Blk W5 gn 27 (u8s 12 Y)) := Lib.hid (by rw [hW]; exact RN.out.far D1.out 8 m _)
 replace RZ : Hid (Blk W5 g6 53 #[.int .u8 0, .int .u8 0, .int .u8 0, .int .u8 0, .int .u8 0, .int .u8 0, .int .u8 0, .int .u8 0, .int .u8 0, .int .u8 0, .int .u8 0, .int .u8 0, .int .u8 0, .int .u8 0, .int .u8 0, .int .u8 0, .int .u8 0, .int .u8 0, .int .u8 0, .int .u8 0, .int .u8 0, .int .u8 0, .int .u8 0, .int .u8 0, .int .u8 0, .int .u8 0, .int .u8 0, .int .u8 0, .int .u8 0, .int .u8 0, .int .u8 0, .int .u8 0, .int .u8 0, .int .u8 0, .int .u8 0, .int .u8 0, .int .u8 0, .int .u8 0, .int .u8 0, .int .u8 0, .int .u8 0, .int .u8 0, .int .u8 0, .int .u8 0, .int .u8 0, .int .u8 0, .int .u8 0, .int .u8 0, .int .u8 0, .int .u8 0, .int .u8 0, .int .u8 0, .int .u8 0, .int .u8 0, .int .u8 0, .int .u8 0, .int .u8 0, .int .u8 0, .int .u8 0, .int .u8 0, .int .u8 0, .int .u8 0, .int .u8 0, .int .u8 0]) := Lib.hid (by rw [hW]; exact RZ.out.far D2.out 8 m _)
 replace RX : Hid (Blk W5 gx 77 (u32s [1634760805, 857760878, 2036477234, 1797285236, (le4 (X 0) (X 1) (X 2) (X 3)), (le4 (X 4) (X 5) (X 6) (X 7)), (le4 (X 8) (X 9) (X 10) (X 11)), (le4 (X 12) (X 13) (X 14) (X 15)), (le4 (X 16) (X 17) (X 18) (X 19)), 0, 0, 0, 0, 0, 0, 0])) := Lib.hid (by rw [hW]; exact RX.out.set32 8 m (le4 (X 16) (X 17) (X 18) (X 19)))
 replace BW : Hid (Below gk w W5) := Lib.hid (by rw [hW]; exact below_set BW.out D3.out 8 m _)
 replace SZ : Hid (W5.heap.size = gx + 1) := Lib.hid (by rw [hW]; simp; exact SZ.out)
 clear hW
 rw [rounds_succ]
 go_wp2_with fail
 refine (rword_any _ gk 20 _ _ _ _ _ _ (RK.out.u8 20 (by omega)) (RK.out.u8 21 (by omega)) (RK.out.u8 22 (by omega)) (RK.out.u8 23 (by omega)) (by omega) (BX.out _) (BX.out _) (BX.out _) (BX.out _)).mono ?_
 rintro e w' ⟨rfl, m, rfl⟩
 have cx : (W5.drewN m).cell? ⟨gx, 9, none⟩ = some (.int .u32 0) := RX.out.u32 9 (by simp)
 have fx : (W5.drewN m).frozen? ⟨gx, 9, none⟩ = false := RX.out.free 9
 go_wp2_with fail
 clear cx fx
 obtain ⟨W6, hW⟩ : ∃ V, V = (W5.drewN m).setCell ⟨gx, 9, none⟩ (.int .u32 (((le4 (X 20) (X 21) (X 22) (X 23)) : Nat) : Int)) := ⟨_, rfl⟩
 rw [← hW]
 replace RK : Hid (Blk W6 gk 22 (u8s 32 X)) := Lib.hid (by rw [hW]; exact RK.out.far D0.out 9 m _)
 replace RN : Hid (Blk W6 gn 27 (u8s 12 Y)) := Lib.hid (by rw [hW]; exact RN.out.far D1.out 9 m _)
 replace RZ : Hid (Blk W6 g6 53 #[.int .u8 0, .int .u8 0, .int .u8 0, .int .u8 0, .int .u8 0, .int .u8 0, .int .u8 0, .int .u8 0, .int .u8 0, .int .u8 0, .int .u8 0, .int .u8 0, .int .u8 0, .int .u8 0, .int .u8 0, .int .u8 0, .int .u8 0, .int .u8 0, .int .u8 0, .int .u8 0, .int .u8 0, .int .u8 0, .int .u8 0, .int .u8 0, .int .u8 0, .int .u8 0, .int .u8 0, .int .u8 0, .int .u8 0, .int .u8 0, .int .u8 0, .int .u8 0, .int .u8 0, .int .u8 0, .int .u8 0, .int .u8 0, .int .u8 0, .int .u8 0, .int .u8 0, .int .u8 0, .int .u8 0, .int .u8 0, .int .u8 0, .int .u8 0, .int .u8 0, .int .u8 0, .int .u8 0, .int .u8 0, .int .u8 0, .int .u8 0, .int .u8 0, .int .u8 0, .int .u8 0, .int .u8 0, .int .u8 0, .int .u8 0, .int .u8 0, .int .u8 0, .int .u8 0, .int .u8 0, .int .u8 0, .int .u8 0, .int .u8 0, .int .u8 0]) := Lib.hid (by rw [hW]; exact RZ.out.far D2.out 9 m _)
 replace RX : Hid (Blk W6 gx 77 (u32s [1634760805, 857760878, 2036477234, 1797285236, (le4 (X 0) (X 1) (X 2) (X 3)), (le4 (X 4) (X 5) (X 6) (X 7)), (le4 (X 8) (X 9) (X 10) (X 11)), (le4 (X 12) (X 13) (X 14) (X 15)), (le4 (X 16) (X 17) (X 18) (X 19)), (le4 (X 20) (X 21) (X 22) (X 23)), 0, 0, 0, 0, 0, 0])) := Lib.hid (by rw [hW]; exact RX.out.set32 9 m (le4 (X 20) (X 21) (X 22) (X 23)))
 replace BW : Hid (Below gk w W6) := Lib.hid (by rw [hW]; exact below_set BW.out D3.out 9 m _)
 replace SZ : Hid (W6.heap.size = gx + 1) := Lib.hid (by rw [hW]; simp; exact SZ.out)
 clear hW
 rw [rounds_succ]
 go_wp2_with fail
 refine (rword_any _ gk 24 _ _ _ _ _ _ (RK.out.u8 24 (by omega)) (RK.out.u8 25 (by omega)) (RK.out.u8 26 (by omega)) (RK.out.u8 27 (by omega)) (by omega) (BX.out _) (BX.out _) (BX.out _) (BX.out _)).mono ?_
 rintro e w' ⟨rfl, m, rfl⟩
 have cx : (W6.drewN m).cell? ⟨gx, 10, none⟩ = some (.int .u32 0) := RX.out.u32 10 (by simp)
 have fx : (W6.drewN m).frozen? ⟨gx, 10, none⟩ = false := RX.out.free 10
 go_wp2_with fail
 clear cx fx
 obtain ⟨W7, hW⟩ : ∃ V, V = (W6.drewN m).setCell ⟨gx, 10, none⟩ (.int .u32 (((le4 (X 24) (X 25) (X 26) (X 27)) : Nat) : Int)) := ⟨_, rfl⟩
 rw [← hW]
 replace RK : Hid (Blk W7 gk 22 (u8s 32 X)) := Lib.hid (by rw [hW]; exact RK.out.far D0.out 10 m _)
 replace RN : Hid (Blk W7 gn 27 (u8s 12 Y)) := Lib.hid (by rw [hW]; exact RN.out.far D1.out 10 m _)
 replace RZ : Hid (Blk W7 g6 53 #[.int .u8 0, .int .u8 0, .int .u8 0, .int .u8 0, .int .u8 0, .int .u8 0, .int .u8 0, .int .u8 0, .int .u8 0, .int .u8 0, .int .u8 0, .int .u8 0, .int .u8 0, .int .u8 0, .int .u8 0, .int .u8 0, .int .u8 0, .int .u8 0, .int .u8 0, .int .u8 0, .int .u8 0, .int .u8 0, .int .u8 0, .int .u8 0, .int .u8 0, .int .u8 0, .int .u8 0, .int .u8 0, .int .u8 0, .int .u8 0, .int .u8 0, .int .u8 0, .int .u8 0, .int .u8 0, .int .u8 0, .int .u8 0, .int .u8 0, .int .u8 0, .int .u8 0, .int .u8 0, .int .u8 0, .int .u8 0, .int .u8 0, .int .u8 0, .int .u8 0, .int .u8 0, .int .u8 0, .int .u8 0, .int .u8 0, .int .u8 0, .int .u8 0, .int .u8 0, .int .u8 0, .int .u8 0, .int .u8 0, .int .u8 0, .int .u8 0, .int .u8 0, .int .u8 0, .int .u8 0, .int .u8 0, .int .u8 0, .int .u8 0, .int .u8 0]) := Lib.hid (by rw [hW]; exact RZ.out.far D2.out 10 m _)
 replace RX : Hid (Blk W7 gx 77 (u32s [1634760805, 857760878, 2036477234, 1797285236, (le4 (X 0) (X 1) (X 2) (X 3)), (le4 (X 4) (X 5) (X 6) (X 7)), (le4 (X 8) (X 9) (X 10) (X 11)), (le4 (X 12) (X 13) (X 14) (X 15)), (le4 (X 16) (X 17) (X 18) (X 19)), (le4 (X 20) (X 21) (X 22) (X 23)), (le4 (X 24) (X 25) (X 26) (X 27)), 0, 0, 0, 0, 0])) := Lib.hid (by rw [hW]; exact RX.out.set32 10 m (le4 (X 24) (X 25) (X 26) (X 27)))
 replace BW : Hid (Below gk w W7) := Lib.hid (by rw [hW]; exact below_set BW.out D3.out 10 m _)
 replace SZ : Hid (W7.heap.size = gx + 1) := Lib.hid (by rw [hW]; simp; exact SZ.out)
 clear hW
 rw [rounds_succ]
 go_wp2_with fail
 refine (rword_any _ gk 28 _ _ _ _ _ _ (RK.out.u8 28 (by omega)) (RK.out.u8 29 (by omega)) (RK.out.u8 30 (by omega)) (RK.out.u8 31 (by omega)) (by omega) (BX.out _) (BX.out _) (BX.out _) (BX.out _)).mono ?_
 rintro e w' ⟨rfl, m, rfl⟩
 have cx : (W7.drewN m).cell? ⟨gx, 11, none⟩ = some (.int .u32 0) := RX.out.u32 11 (by simp)
 have fx : (W7.drewN m).frozen? ⟨gx, 11, none⟩ = false := RX.out.free 11
 go_wp2_with fail
 clear cx fx
 obtain ⟨W8, hW⟩ : ∃ V, V = (W7.drewN m).setCell ⟨gx, 11, none⟩ (.int .u32 (((le4 (X 28) (X 29) (X 30) (X 31)) : Nat) : Int)) := ⟨_, rfl⟩
 rw [← hW]
 replace RK : Hid (Blk W8 gk 22 (u8s 32 X)) := Lib.hid (by rw [hW]; exact RK.out.far D0.out 11 m _)
 replace RN : Hid (Blk W8 gn 27 (u8s 12 Y)) := Lib.hid (by rw [hW]; exact RN.out.far D1.out 11 m _)
 replace RZ : Hid (Blk W8 g6 53 #[.int .u8 0, .int .u8 0, .int .u8 0, .int .u8 0, .int .u8 0, .int .u8 0, .int .u8 0, .int .u8 0, .int .u8 0, .int .u8 0, .int .u8 0, .int .u8 0, .int .u8 0, .int .u8 0, .int .u8 0, .int .u8 0, .int .u8 0, .int .u8 0, .int .u8 0, .int .u8 0, .int .u8 0, .int .u8 0, .int .u8 0, .int .u8 0, .int .u8 0, .int .u8 0, .int .u8 0, .int .u8 0, .int .u8 0, .int .u8 0, .int .u8 0, .int .u8 0, .int .u8 0, .int .u8 0, .int .u8 0, .int .u8 0, .int .u8 0, .int .u8 0, .int .u8 0, .int .u8 0, .int .u8 0, .int .u8 0, .int .u8 0, .int .u8 0, .int .u8 0, .int .u8 0, .int .u8 0, .int .u8 0, .int .u8 0, .int .u8 0, .int .u8 0, .int .u8 0, .int .u8 0, .int .u8 0, .int .u8 0, .int .u8 0, .int .u8 0, .int .u8 0, .int .u8 0, .int .u8 0, .int .u8 0, .int .u8 0, .int .u8 0, .int .u8 0]) := Lib.hid (by rw [hW]; exact RZ.out.far D2.out 11 m _)
 replace RX : Hid (Blk W8 gx 77 (u32s [1634760805, 857760878, 2036477234, 1797285236, (le4 (X 0) (X 1) (X 2) (X 3)), (le4 (X 4) (X 5) (X 6) (X 7)), (le4 (X 8) (X 9) (X 10) (X 11)), (le4 (X 12) (X 13) (X 14) (X 15)), (le4 (X 16) (X 17) (X 18) (X 19)), (le4 (X 20) (X 21) (X 22) (X 23)), (le4 (X 24) (X 25) (X 26) (X 27)), (le4 (X 28) (X 29) (X 30) (X 31)), 0, 0, 0, 0])) := Lib.hid (by rw [hW]; exact RX.out.set32 11 m (le4 (X 28) (X 29) (X 30) (X 31)))
 replace BW : Hid (Below gk w W8) := Lib.hid (by rw [hW]; exact below_set BW.out D3.out 11 m _)
 replace SZ : Hid (W8.heap.size = gx + 1) := Lib.hid (by rw [hW]; simp; exact SZ.out)
 clear hW
 have cx : W8.cell? ⟨gx, 12, none⟩ = some (.int .u32 0) := RX.out.u32 12 (by simp)
 have fx : W8.frozen? ⟨gx, 12, none⟩ = false := RX.out.free 12
 rw [rounds_succ]
 go_wp2_with fail
 clear cx fx
 obtain ⟨W9, hW⟩ : ∃ V, V = (W8).setCell ⟨gx, 12, none⟩ (.int .u32 ((c : Nat) : Int)) := ⟨_, rfl⟩
 rw [← hW]
 replace RK : Hid (Blk W9 gk 22 (u8s 32 X)) := Lib.hid (by rw [hW]; exact RK.out.far D0.out 12 0 _)
 replace RN : Hid (Blk W9 gn 27 (u8s 12 Y)) := Lib.hid (by rw [hW]; exact RN.out.far D1.out 12 0 _)
 replace RZ : Hid (Blk W9 g6 53 #[.int .u8 0, .int .u8 0, .int .u8 0, .int .u8 0, .int .u8 0, .int .u8 0, .int .u8 0, .int .u8 0, .int .u8 0, .int .u8 0, .int .u8 0, .int .u8 0, .int .u8 0, .int .u8 0, .int .u8 0, .int .u8 0, .int .u8 0, .int .u8 0, .int .u8 0, .int .u8 0, .int .u8 0, .int .u8 0, .int .u8 0, .int .u8 0, .int .u8 0, .int .u8 0, .int .u8 0, .int .u8 0, .int .u8 0, .int .u8 0, .int .u8 0, .int .u8 0, .int .u8 0, .int .u8 0, .int .u8 0, .int .u8 0, .int .u8 0, .int .u8 0, .int .u8 0, .int .u8 0, .int .u8 0, .int .u8 0, .int .u8 0, .int .u8 0, .int .u8 0, .int .u8 0, .int .u8 0, .int .u8 0, .int .u8 0, .int .u8 0, .int .u8 0, .int .u8 0, .int .u8 0, .int .u8 0, .int .u8 0, .int .u8 0, .int .u8 0, .int .u8 0, .int .u8 0, .int .u8 0, .int .u8 0, .int .u8 0, .int .u8 0, .int .u8 0]) := Lib.hid (by rw [hW]; exact RZ.out.far D2.out 12 0 _)
 replace RX : Hid (Blk W9 gx 77 (u32s [1634760805, 857760878, 2036477234, 1797285236, (le4 (X 0) (X 1) (X 2) (X 3)), (le4 (X 4) (X 5) (X 6) (X 7)), (le4 (X 8) (X 9) (X 10) (X 11)), (le4 (X 12) (X 13) (X 14) (X 15)), (le4 (X 16) (X 17) (X 18) (X 19)), (le4 (X 20) (X 21) (X 22) (X 23)), (le4 (X 24) (X 25) (X 26) (X 27)), (le4 (X 28) (X 29) (X 30) (X 31)), c, 0, 0, 0])) := Lib.hid (by rw [hW]; exact RX.out.set32 12 0 c)
 replace BW : Hid (Below gk w W9) := Lib.hid (by rw [hW]; exact below_set BW.out D3.out 12 0 _)
 replace SZ : Hid (W9.heap.size = gx + 1) := Lib.hid (by rw [hW]; simp; exact SZ.out)
 clear hW
 refine wp_loop_rounds 4 ?_
 rw [rounds_succ]
 go_wp2_with fail
 refine (rword_any _ gn 0 _ _ _ _ _ _ (RN.out.u8 0 (by omega)) (RN.out.u8 1 (by omega)) (RN.out.u8 2 (by omega)) (RN.out.u8 3 (by omega)) (by omega) (BY.out _) (BY.out _) (BY.out _) (BY.out _)).mono ?_
 rintro e w' ⟨rfl, m, rfl⟩
 have cx : (W9.drewN m).cell? ⟨gx, 13, none⟩ = some (.int .u32 0) := RX.out.u32 13 (by simp)
 have fx : (W9.drewN m).frozen? ⟨gx, 13, none⟩ = false := RX.out.free 13
 go_wp2_with fail
 clear cx fx
 obtain ⟨W10, hW⟩ : ∃ V, V = (W9.drewN m).setCell ⟨gx, 13, none⟩ (.int .u32 (((le4 (Y 0) (Y 1) (Y 2) (Y 3)) : Nat) : Int)) := ⟨_, rfl⟩
 rw [← hW]
 replace RK : Hid (Blk W10 gk 22 (u8s 32 X)) := Lib.hid (by rw [hW]; exact RK.out.far D0.out 13 m _)
 replace RN : Hid (Blk W10 gn 27 (u8s 12 Y)) := Lib.hid (by rw [hW]; exact RN.out.far D1.out 13 m _)
 replace RZ : Hid (Blk W10 g6 53 #[.int .u8 0, .int .u8 0, .int .u8 0, .int .u8 0, .int .u8 0, .int .u8 0, .int .u8 0, .int .u8 0, .int .u8 0, .int .u8 0, .int .u8 0, .int .u8 0, .int .u8 0, .int .u8 0, .int .u8 0, .int .u8 0, .int .u8 0, .int .u8 0, .int .u8 0, .int .u8 0, .int .u8 0, .int .u8 0, .int .u8 0, .int .u8 0, .int .u8 0, .int .u8 0, .int .u8 0, .int .u8 0, .int .u8 0, .int .u8 0, .int .u8 0, .int .u8 0, .int .u8 0, .int .u8 0, .int .u8 0, .int .u8 0, .int .u8 0, .int .u8 0, .int .u8 0, .int .u8 0, .int .u8 0, .int .u8 0, .int .u8 0, .int .u8 0, .int .u8 0, .int .u8 0, .int .u8 0, .int .u8 0, .int .u8 0, .int .u8 0, .int .u8 0, .int .u8 0, .int .u8 0, .int .u8 0, .int .u8 0, .int .u8 0, .int .u8 0, .int .u8 0, .int .u8 0, .int .u8 0, .int .u8 0, .int .u8 0, .int .u8 0, .int .u8 0]) := Lib.hid (by rw [hW]; exact RZ.out.far D2.out 13 m _)
 replace RX : Hid (Blk W10 gx 77 (u32s [1634760805, 857760878, 2036477234, 1797285236, (le4 (X 0) (X 1) (X 2) (X 3)), (le4 (X 4) (X 5) (X 6) (X 7)), (le4 (X 8) (X 9) (X 10) (X 11)), (le4 (X 12) (X 13) (X 14) (X 15)), (le4 (X 16) (X 17) (X 18) (X 19)), (le4 (X 20) (X 21) (X 22) (X 23)), (le4 (X 24) (X 25) (X 26) (X 27)), (le4 (X 28) (X 29) (X 30) (X 31)), c, (le4 (Y 0) (Y 1) (Y 2) (Y 3)), 0, 0])) := Lib.hid (by rw [hW]; exact RX.out.set32 13 m (le4 (Y 0) (Y 1) (Y 2) (Y 3)))
 replace BW : Hid (Below gk w W10) := Lib.hid (by rw [hW]; exact below_set BW.out D3.out 13 m _)
 replace SZ : Hid (W10.heap.size = gx + 1) := Lib.hid (by rw [hW]; simp; exact SZ.out)
 clear hW
 rw [rounds_succ]
 go_wp2_with fail
 refine (rword_any _ gn 4 _ _ _ _ _ _ (RN.out.u8 4 (by omega)) (RN.out.u8 5 (by omega)) (RN.out.u8 6 (by omega)) (RN.out.u8 7 (by omega)) (by omega) (BY.out _) (BY.out _) (BY.out _) (BY.out _)).mono ?_
 rintro e w' ⟨rfl, m, rfl⟩
 have cx : (W10.drewN m).cell? ⟨gx, 14, none⟩ = some (.int .u32 0) := RX.out.u32 14 (by simp)
 have fx : (W10.drewN m).frozen? ⟨gx, 14, none⟩ = false := RX.out.free 14
 go_wp2_with fail
 clear cx fx
 obtain ⟨W11, hW⟩ : ∃ V, V = (W10.drewN m).setCell ⟨gx, 14, none⟩ (.int .u32 (((le4 (Y 4) (Y 5) (Y 6) (Y 7)) : Nat) : Int)) := ⟨_, rfl⟩
 rw [← hW]
 replace RK : Hid (Blk W11 gk 22 (u8s 32 X)) := Lib.hid (by rw [hW]; exact RK.out.far D0.out 14 m _)
 replace RN : Hid (Blk W11 gn 27 (u8s 12 Y)) := Lib.hid (by rw [hW]; exact RN.out.far D1.out 14 m _)
 replace RZ : Hid (Blk W11 g6 53 #[.int .u8 0, .int .u8 0, .int .u8 0, .int .u8 0, .int .u8 0, .int .u8 0, .int .u8 0, .int .u8 0, .int .u8 0, .int .u8 0, .int .u8 0, .int .u8 0, .int .u8 0, .int .u8 0, .int .u8 0, .int .u8 0, .int .u8 0, .int .u8 0, .int .u8 0, .int .u8 0, .int .u8 0, .int .u8 0, .int .u8 0, .int .u8 0, .int .u8 0, .int .u8 0, .int .u8 0, .int .u8 0, .int .u8 0, .int .u8 0, .int .u8 0, .int .u8 0, .int .u8 0, .int .u8 0, .int .u8 0, .int .u8 0, .int .u8 0, .int .u8 0, .int .u8 0, .int .u8 0, .int .u8 0, .int .u8 0, .int .u8 0, .int .u8 0, .int .u8 0, .int .u8 0, .int .u8 0, .int .u8 0, .int .u8 0, .int .u8 0, .int .u8 0, .int .u8 0, .int .u8 0, .int .u8 0, .int .u8 0, .int .u8 0, .int .u8 0, .int .u8 0, .int .u8 0, .int .u8 0, .int .u8 0, .int .u8 0, .int .u8 0, .int .u8 0]) := Lib.hid (by rw [hW]; exact RZ.out.far D2.out 14 m _)
 replace RX : Hid (Blk W11 gx 77 (u32s [1634760805, 857760878, 2036477234, 1797285236, (le4 (X 0) (X 1) (X 2) (X 3)), (le4 (X 4) (X 5) (X 6) (X 7)), (le4 (X 8) (X 9) (X 10) (X 11)), (le4 (X 12) (X 13) (X 14) (X 15)), (le4 (X 16) (X 17) (X 18) (X 19)), (le4 (X 20) (X 21) (X 22) (X 23)), (le4 (X 24) (X 25) (X 26) (X 27)), (le4 (X 28) (X 29) (X 30) (X 31)), c, (le4 (Y 0) (Y 1) (Y 2) (Y 3)), (le4 (Y 4) (Y 5) (Y 6) (Y 7)), 0])) := Lib.hid (by rw [hW]; exact RX.out.set32 14 m (le4 (Y 4) (Y 5) (Y 6) (Y 7)))
 replace BW : Hid (Below gk w W11) := Lib.hid (by rw [hW]; exact below_set BW.out D3.out 14 m _)
 replace SZ : Hid (W11.heap.size = gx + 1) := Lib.hid (by rw [hW]; simp; exact SZ.out)
 clear hW
 rw [rounds_succ]
 go_wp2_with fail
 refine (rword_any _ gn 8 _ _ _ _ _ _ (RN.out.u8 8 (by omega)) (RN.out.u8 9 (by omega)) (RN.out.u8 10 (by omega)) (RN.out.u8 11 (by omega)) (by omega) (BY.out _) (BY.out _) (BY.out _) (BY.out _)).mono ?_
 rintro e w' ⟨rfl, m, rfl⟩
 have cx : (W11.drewN m).cell? ⟨gx, 15, none⟩ = some (.int .u32 0) := RX.out.u32 15 (by simp)
 have fx : (W11.drewN m).frozen? ⟨gx, 15, none⟩ = false := RX.out.free 15
 go_wp2_with fail
 clear cx fx
 obtain ⟨W12, hW⟩ : ∃ V, V = (W11.drewN m).setCell ⟨gx, 15, none⟩ (.int .u32 (((le4 (Y 8) (Y 9) (Y 10) (Y 11)) : Nat) : Int)) := ⟨_, rfl⟩
 rw [← hW]
 replace RK : Hid (Blk W12 gk 22 (u8s 32 X)) := Lib.hid (by rw [hW]; exact RK.out.far D0.out 15 m _)
 replace RN : Hid (Blk W12 gn 27 (u8s 12 Y)) := Lib.hid (by rw [hW]; exact RN.out.far D1.out 15 m _)
 replace RZ : Hid (Blk W12 g6 53 #[.int .u8 0, .int .u8 0, .int .u8 0, .int .u8 0, .int .u8 0, .int .u8 0, .int .u8 0, .int .u8 0, .int .u8 0, .int .u8 0, .int .u8 0, .int .u8 0, .int .u8 0, .int .u8 0, .int .u8 0, .int .u8 0, .int .u8 0, .int .u8 0, .int .u8 0, .int .u8 0, .int .u8 0, .int .u8 0, .int .u8 0, .int .u8 0, .int .u8 0, .int .u8 0, .int .u8 0, .int .u8 0, .int .u8 0, .int .u8 0, .int .u8 0, .int .u8 0, .int .u8 0, .int .u8 0, .int .u8 0, .int .u8 0, .int .u8 0, .int .u8 0, .int .u8 0, .int .u8 0, .int .u8 0, .int .u8 0, .int .u8 0, .int .u8 0, .int .u8 0, .int .u8 0, .int .u8 0, .int .u8 0, .int .u8 0, .int .u8 0, .int .u8 0, .int .u8 0, .int .u8 0, .int .u8 0, .int .u8 0, .int .u8 0, .int .u8 0, .int .u8 0, .int .u8 0, .int .u8 0, .int .u8 0, .int .u8 0, .int .u8 0, .int .u8 0]) := Lib.hid (by rw [hW]; exact RZ.out.far D2.out 15 m _)
 replace RX : Hid (Blk W12 gx 77 (u32s [1634760805, 857760878, 2036477234, 1797285236, (le4 (X 0) (X 1) (X 2) (X 3)), (le4 (X 4) (X 5) (X 6) (X 7)), (le4 (X 8) (X 9) (X 10) (X 11)), (le4 (X 12) (X 13) (X 14) (X 15)), (le4 (X 16) (X 17) (X 18) (X 19)), (le4 (X 20) (X 21) (X 22) (X 23)), (le4 (X 24) (X 25) (X 26) (X 27)), (le4 (X 28) (X 29) (X 30) (X 31)), c, (le4 (Y 0) (Y 1) (Y 2) (Y 3)), (le4 (Y 4) (Y 5) (Y 6) (Y 7)), (le4 (Y 8) (Y 9) (Y 10) (Y 11))])) := Lib.hid (by rw [hW]; exact RX.out.set32 15 m (le4 (Y 8) (Y 9) (Y 10) (Y 11)))
 replace BW : Hid (Below gk w W12) := Lib.hid (by rw [hW]; exact below_set BW.out D3.out 15 m _)
 replace SZ : Hid (W12.heap.size = gx + 1) := Lib.hid (by rw [hW]; simp; exact SZ.out)
 clear hW
 rw [rounds_succ]
 go_wp2_with (first | (refine wpList_load_row rfl 77 _ rfl gx rfl 77 _ (0, 0) _ RX.out Tryd.underlying77 rfl (by kernel_rfl) ?_) | (refine wpList_store_row rfl 77 _ _ rfl W12.heap.size _ rfl rfl 77 _ (Blk.new W12 77 _) (by rw [u32s_size]; kernel_rfl) (by rw [u32s_size]; rfl) (u32s_one _) ?_))
 have WF : Hid (W16 [1634760805, 857760878, 2036477234, 1797285236, (le4 (X 0) (X 1) (X 2) (X 3)), (le4 (X 4) (X 5) (X 6) (X 7)), (le4 (X 8) (X 9) (X 10) (X 11)), (le4 (X 12) (X 13) (X 14) (X 15)), (le4 (X 16) (X 17) (X 18) (X 19)), (le4 (X 20) (X 21) (X 22) (X 23)), (le4 (X 24) (X 25) (X 26) (X 27)), (le4 (X 28) (X 29) (X 30) (X 31)), c, (le4 (Y 0) (Y 1) (Y 2) (Y 3)), (le4 (Y 4) (Y 5) (Y 6) (Y 7)), (le4 (Y 8) (Y 9) (Y 10) (Y 11))]) := Lib.hid (st_w16 X Y c BX.out BY.out hc)
 clear hc
 generalize hL : ([1634760805, 857760878, 2036477234, 1797285236, (le4 (X 0) (X 1) (X 2) (X 3)), (le4 (X 4) (X 5) (X 6) (X 7)), (le4 (X 8) (X 9) (X 10) (X 11)), (le4 (X 12) (X 13) (X 14) (X 15)), (le4 (X 16) (X 17) (X 18) (X 19)), (le4 (X 20) (X 21) (X 22) (X 23)), (le4 (X 24) (X 25) (X 26) (X 27)), (le4 (X 28) (X 29) (X 30) (X 31)), c, (le4 (Y 0) (Y 1) (Y 2) (Y 3)), (le4 (Y 4) (Y 5) (Y 6) (Y 7)), (le4 (Y 8) (Y 9) (Y 10) (Y 11))] : List Nat) = L at *
 have EL := Lib.hid hL
 clear hL
 have DY : Hid (gx ≠ W12.heap.size) := Lib.hid (by rw [SZ.out]; omega)
 have D6 : Hid (g6 ≠ W12.heap.size) := Lib.hid (Nat.ne_of_lt RZ.out.lt)
 have LY : Hid (gk ≤ W12.heap.size) := Lib.hid (by rw [SZ.out]; have := D3.out; omega)
 obtain ⟨U0, hU⟩ : ∃ V, V = (W12.alloc (.cells #[.int .u32 0, .int .u32 0, .int .u32 0, .int .u32 0, .int .u32 0, .int .u32 0, .int .u32 0, .int .u32 0, .int .u32 0, .int .u32 0, .int .u32 0, .int .u32 0, .int .u32 0, .int .u32 0, .int .u32 0, .int .u32 0] 77)).setRow W12.heap.size (u32s L) := ⟨_, rfl⟩
 rw [← hU]
 have RY : Hid (Blk U0 W12.heap.size 77 (u32s (drounds 0 L))) := Lib.hid (by rw [hU]; exact setRow_heap _ _ _ _ _ _ (Blk.new W12 77 _))
 replace RX : Hid (Blk U0 gx 77 (u32s L)) := Lib.hid (by rw [hU]; exact (setRow_other _ _ _ _ DY.out).trans (RX.out.alloc _))
 replace RZ : Hid (Blk U0 g6 53 #[.int .u8 0, .int .u8 0, .int .u8 0, .int .u8 0, .int .u8 0, .int .u8 0, .int .u8 0, .int .u8 0, .int .u8 0, .int .u8 0, .int .u8 0, .int .u8 0, .int .u8 0, .int .u8 0, .int .u8 0, .int .u8 0, .int .u8 0, .int .u8 0, .int .u8 0, .int .u8 0, .int .u8 0, .int .u8 0, .int .u8 0, .int .u8 0, .int .u8 0, .int .u8 0, .int .u8 0, .int .u8 0, .int .u8 0, .int .u8 0, .int .u8 0, .int .u8 0, .int .u8 0, .int .u8 0, .int .u8 0, .int .u8 0, .int .u8 0, .int .u8 0, .int .u8 0, .int .u8 0, .int .u8 0, .int .u8 0, .int .u8 0, .int .u8 0, .int .u8 0, .int .u8 0, .int .u8 0, .int .u8 0, .int .u8 0, .int .u8 0, .int .u8 0, .int .u8 0, .int .u8 0, .int .u8 0, .int .u8 0, .int .u8 0, .int .u8 0, .int .u8 0, .int .u8 0, .int .u8 0, .int .u8 0, .int .u8 0, .int .u8 0, .int .u8 0]) := Lib.hid (by rw [hU]; exact (setRow_other _ _ _ _ D6.out).trans (RZ.out.alloc _))
 replace BW : Hid (Below gk w U0) := Lib.hid (by rw [hU]; exact below_setRow (BW.out.alloc LY.out _) LY.out _)
 clear hU SZ D2 D0 D1 RK RN
 generalize W12.heap.size = gy at *
 refine wp_loop_rounds 11 ?_
 rw [rounds_succ]
 have RW : Hid (W16 (drounds 0 L)) := Lib.hid (drounds_w16 WF.out 0)
 go_wp2_with (refine wpList_load_row rfl 77 _ rfl gy rfl 77 _ (0, 0) _ RY.out Tryd.underlying77 rfl (i46 _ RW.out) ?_)
 refine (rqL0 _ _ RW.out).mono ?_
 rintro e V ⟨rfl, hb⟩
 replace BW := Lib.hid (BW.out.trans (hb.mono (by have := RY.out.lt; have := LY.out; omega)))
 replace RY := Lib.hid (RY.out.below hb)
 replace RX := Lib.hid (RX.out.below hb)
 replace RZ := Lib.hid (RZ.out.below hb)
 clear hb
 have RW' := Lib.hid (qr_w16 RW.out 0 4 8 12 (by omega) (by omega) (by omega) (by omega))
 go_wp2_with (first | (refine wpList_store_row rfl 77 _ _ rfl gy _ rfl rfl 77 _ RY.out (i46 _ RW'.out) (s46 RW.out RW'.out) (u32s_one _) ?_) | (refine wpList_load_row rfl 77 _ rfl gy rfl 77 _ (0, 0) _ (setRow_heap _ _ _ _ _ _ RY.out) Tryd.underlying77 rfl (i46 _ RW'.out) ?_))
 obtain ⟨U1, hU⟩ : ∃ U, U = V.setRow gy (u32s (qr (drounds 0 L) 0 4 8 12)) := ⟨_, rfl⟩
 rw [← hU]
 replace RY : Hid (Blk U1 gy 77 (u32s (qr (drounds 0 L) 0 4 8 12))) := Lib.hid (by rw [hU]; exact setRow_heap _ _ _ _ _ _ RY.out)
 replace RX : Hid (Blk U1 gx 77 (u32s L)) := Lib.hid (by rw [hU]; exact (setRow_other _ _ _ _ DY.out).trans RX.out)
 replace RZ : Hid (Blk U1 g6 53 _) := Lib.hid (by rw [hU]; exact (setRow_other _ _ _ _ D6.out).trans RZ.out)
 replace BW : Hid (Below gk w U1) := Lib.hid (by rw [hU]; exact below_setRow BW.out LY.out _)
 replace RW := RW'
 clear hU RW'
 clear V
 refine (rqL1 _ _ RW.out).mono ?_
 rintro e V ⟨rfl, hb⟩
 replace BW := Lib.hid (BW.out.trans (hb.mono (by have := RY.out.lt; have := LY.out; omega)))
 replace RY := Lib.hid (RY.out.below hb)
 replace RX := Lib.hid (RX.out.below hb)
 replace RZ := Lib.hid (RZ.out.below hb)
 clear hb
 have RW' := Lib.hid (qr_w16 RW.out 1 5 9 13 (by omega) (by omega) (by omega) (by omega))
 go_wp2_with (first | (refine wpList_store_row rfl 77 _ _ rfl gy _ rfl rfl 77 _ RY.out (i46 _ RW'.out) (s46 RW.out RW'.out) (u32s_one _) ?_) | (refine wpList_load_row rfl 77 _ rfl gy rfl 77 _ (0, 0) _ (setRow_heap _ _ _ _ _ _ RY.out) Tryd.underlying77 rfl (i46 _ RW'.out) ?_))
 obtain ⟨U2, hU⟩ : ∃ U, U = V.setRow gy (u32s (qr (qr (drounds 0 L) 0 4 8 12) 1 5 9 13)) := ⟨_, rfl⟩
 rw [← hU]
 replace RY : Hid (Blk U2 gy 77 (u32s (qr (qr (drounds 0 L) 0 4 8 12) 1 5 9 13))) := Lib.hid (by rw [hU]; exact setRow_heap _ _ _ _ _ _ RY.out)
 replace RX : Hid (Blk U2 gx 77 (u32s L)) := Lib.hid (by rw [hU]; exact (setRow_other _ _ _ _ DY.out).trans RX.out)
 replace RZ : Hid (Blk U2 g6 53 _) := Lib.hid (by rw [hU]; exact (setRow_other _ _ _ _ D6.out).trans RZ.out)
 replace BW : Hid (Below gk w U2) := Lib.hid (by rw [hU]; exact below_setRow BW.out LY.out _)
 replace RW := RW'
 clear hU RW'
 clear V
 refine (rqL2 _ _ RW.out).mono ?_
 rintro e V ⟨rfl, hb⟩
 replace BW := Lib.hid (BW.out.trans (hb.mono (by have := RY.out.lt; have := LY.out; omega)))
 replace RY := Lib.hid (RY.out.below hb)
 replace RX := Lib.hid (RX.out.below hb)
 replace RZ := Lib.hid (RZ.out.below hb)
 clear hb
 have RW' := Lib.hid (qr_w16 RW.out 2 6 10 14 (by omega) (by omega) (by omega) (by omega))
 go_wp2_with (first | (refine wpList_store_row rfl 77 _ _ rfl gy _ rfl rfl 77 _ RY.out (i46 _ RW'.out) (s46 RW.out RW'.out) (u32s_one _) ?_) | (refine wpList_load_row rfl 77 _ rfl gy rfl 77 _ (0, 0) _ (setRow_heap _ _ _ _ _ _ RY.out) Tryd.underlying77 rfl (i46 _ RW'.out) ?_))
 obtain ⟨U3, hU⟩ : ∃ U, U = V.setRow gy (u32s (qr (qr (qr (drounds 0 L) 0 4 8 12) 1 5 9 13) 2 6 10 14)) := ⟨_, rfl⟩
 rw [← hU]
 replace RY : Hid (Blk U3 gy 77 (u32s (qr (qr (qr (drounds 0 L) 0 4 8 12) 1 5 9 13) 2 6 10 14))) := Lib.hid (by rw [hU]; exact setRow_heap _ _ _ _ _ _ RY.out)
 replace RX : Hid (Blk U3 gx 77 (u32s L)) := Lib.hid (by rw [hU]; exact (setRow_other _ _ _ _ DY.out).trans RX.out)
 replace RZ : Hid (Blk U3 g6 53 _) := Lib.hid (by rw [hU]; exact (setRow_other _ _ _ _ D6.out).trans RZ.out)
 replace BW : Hid (Below gk w U3) := Lib.hid (by rw [hU]; exact below_setRow BW.out LY.out _)
 replace RW := RW'
 clear hU RW'
 clear V
 refine (rqL3 _ _ RW.out).mono ?_
 rintro e V ⟨rfl, hb⟩
 replace BW := Lib.hid (BW.out.trans (hb.mono (by have := RY.out.lt; have := LY.out; omega)))
 replace RY := Lib.hid (RY.out.below hb)
 replace RX := Lib.hid (RX.out.below hb)
 replace RZ := Lib.hid (RZ.out.below hb)
 clear hb
 have RW' := Lib.hid (qr_w16 RW.out 3 7 11 15 (by omega) (by omega) (by omega) (by omega))
 go_wp2_with (first | (refine wpList_store_row rfl 77 _ _ rfl gy _ rfl rfl 77 _ RY.out (i46 _ RW'.out) (s46 RW.out RW'.out) (u32s_one _) ?_) | (refine wpList_load_row rfl 77 _ rfl gy rfl 77 _ (0, 0) _ (setRow_heap _ _ _ _ _ _ RY.out) Tryd.underlying77 rfl (i46 _ RW'.out) ?_))
 obtain ⟨U4, hU⟩ : ∃ U, U = V.setRow gy (u32s (qr (qr (qr (qr (drounds 0 L) 0 4 8 12) 1 5 9 13) 2 6 10 14) 3 7 11 15)) := ⟨_, rfl⟩
 rw [← hU]
 replace RY : Hid (Blk U4 gy 77 (u32s (qr (qr (qr (qr (drounds 0 L) 0 4 8 12) 1 5 9 13) 2 6 10 14) 3 7 11 15))) := Lib.hid (by rw [hU]; exact setRow_heap _ _ _ _ _ _ RY.out)
 replace RX : Hid (Blk U4 gx 77 (u32s L)) := Lib.hid (by rw [hU]; exact (setRow_other _ _ _ _ DY.out).trans RX.out)
 replace RZ : Hid (Blk U4 g6 53 _) := Lib.hid (by rw [hU]; exact (setRow_other _ _ _ _ D6.out).trans RZ.out)
 replace BW : Hid (Below gk w U4) := Lib.hid (by rw [hU]; exact below_setRow BW.out LY.out _)
 replace RW := RW'
 clear hU RW'
 clear V
 refine (rqL4 _ _ RW.out).mono ?_
 rintro e V ⟨rfl, hb⟩
 replace BW := Lib.hid (BW.out.trans (hb.mono (by have := RY.out.lt; have := LY.out; omega)))
 replace RY := Lib.hid (RY.out.below hb)
 replace RX := Lib.hid (RX.out.below hb)
 replace RZ := Lib.hid (RZ.out.below hb)
 clear hb
 have RW' := Lib.hid (qr_w16 RW.out 0 5 10 15 (by omega) (by omega) (by omega) (by omega))
 go_wp2_with (first | (refine wpList_store_row rfl 77 _ _ rfl gy _ rfl rfl 77 _ RY.out (i46 _ RW'.out) (s46 RW.out RW'.out) (u32s_one _) ?_) | (refine wpList_load_row rfl 77 _ rfl gy rfl 77 _ (0, 0) _ (setRow_heap _ _ _ _ _ _ RY.out) Tryd.underlying77 rfl (i46 _ RW'.out) ?_))
 obtain ⟨U5, hU⟩ : ∃ U, U = V.setRow gy (u32s (qr (qr (qr (qr (qr (drounds 0 L) 0 4 8 12) 1 5 9 13) 2 6 10 14) 3 7 11 15) 0 5 10 15)) := ⟨_, rfl⟩
 rw [← hU]
 replace RY : Hid (Blk U5 gy 77 (u32s (qr (qr (qr (qr (qr (drounds 0 L) 0 4 8 12) 1 5 9 13) 2 6 10 14) 3 7 11 15) 0 5 10 15))) := Lib.hid (by rw [hU]; exact setRow_heap _ _ _ _ _ _ RY.out)
 replace RX : Hid (Blk U5 gx 77 (u32s L)) := Lib.hid (by rw [hU]; exact (setRow_other _ _ _ _ DY.out).trans RX.out)
 replace RZ : Hid (Blk U5 g6 53 _) := Lib.hid (by rw [hU]; exact (setRow_other _ _ _ _ D6.out).trans RZ.out)
 replace BW : Hid (Below gk w U5) := Lib.hid (by rw [hU]; exact below_setRow BW.out LY.out _)
 replace RW := RW'
 clear hU RW'
 clear V
 refine (rqL5 _ _ RW.out).mono ?_
 rintro e V ⟨rfl, hb⟩
 replace BW := Lib.hid (BW.out.trans (hb.mono (by have := RY.out.lt; have := LY.out; omega)))
 replace RY := Lib.hid (RY.out.below hb)
 replace RX := Lib.hid (RX.out.below hb)
 replace RZ := Lib.hid (RZ.out.below hb)
 clear hb
 have RW' := Lib.hid (qr_w16 RW.out 1 6 11 12 (by omega) (by omega) (by omega) (by omega))
 go_wp2_with (first | (refine wpList_store_row rfl 77 _ _ rfl gy _ rfl rfl 77 _ RY.out (i46 _ RW'.out) (s46 RW.out RW'.out) (u32s_one _) ?_) | (refine wpList_load_row rfl 77 _ rfl gy rfl 77 _ (0, 0) _ (setRow_heap _ _ _ _ _ _ RY.out) Tryd.underlying77 rfl (i46 _ RW'.out) ?_))
 obtain ⟨U6, hU⟩ : ∃ U, U = V.setRow gy (u32s (qr (qr (qr (qr (qr (qr (drounds 0 L) 0 4 8 12) 1 5 9 13) 2 6 10 14) 3 7 11 15) 0 5 10 15) 1 6 11 12)) := ⟨_, rfl⟩
 rw [← hU]
 replace RY : Hid (Blk U6 gy 77 (u32s (qr (qr (qr (qr (qr (qr (drounds 0 L) 0 4 8 12) 1 5 9 13) 2 6 10 14) 3 7 11 15) 0 5 10 15) 1 6 11 12))) := Lib.hid (by rw [hU]; exact setRow_heap _ _ _ _ _ _ RY.out)
 replace RX : Hid (Blk U6 gx 77 (u32s L)) := Lib.hid (by rw [hU]; exact (setRow_other _ _ _ _ DY.out).trans RX.out)
 replace RZ : Hid (Blk U6 g6 53 _) := Lib.hid (by rw [hU]; exact (setRow_other _ _ _ _ D6.out).trans RZ.out)
 replace BW : Hid (Below gk w U6) := Lib.hid (by rw [hU]; exact below_setRow BW.out LY.out _)
 replace RW := RW'
 clear hU RW'
 clear V
 refine (rqL6 _ _ RW.out).mono ?_
 rintro e V ⟨rfl, hb⟩
 replace BW := Lib.hid (BW.out.trans (hb.mono (by have := RY.out.lt; have := LY.out; omega)))
 replace RY := Lib.hid (RY.out.below hb)
 replace RX := Lib.hid (RX.out.below hb)
 replace RZ := Lib.hid (RZ.out.below hb)
 clear hb
 have RW' := Lib.hid (qr_w16 RW.out 2 7 8 13 (by omega) (by omega) (by omega) (by omega))
 go_wp2_with (first | (refine wpList_store_row rfl 77 _ _ rfl gy _ rfl rfl 77 _ RY.out (i46 _ RW'.out) (s46 RW.out RW'.out) (u32s_one _) ?_) | (refine wpList_load_row rfl 77 _ rfl gy rfl 77 _ (0, 0) _ (setRow_heap _ _ _ _ _ _ RY.out) Tryd.underlying77 rfl (i46 _ RW'.out) ?_))
 obtain ⟨U7, hU⟩ : ∃ U, U = V.setRow gy (u32s (qr (qr (qr (qr (qr (qr (qr (drounds 0 L) 0 4 8 12) 1 5 9 13) 2 6 10 14) 3 7 11 15) 0 5 10 15) 1 6 11 12) 2 7 8 13)) := ⟨_, rfl⟩
 rw [← hU]
 replace RY : Hid (Blk U7 gy 77 (u32s (qr (qr (qr (qr (qr (qr (qr (drounds 0 L) 0 4 8 12) 1 5 9 13) 2 6 10 14) 3 7 11 15) 0 5 10 15) 1 6 11 12) 2 7 8 13))) := Lib.hid (by rw [hU]; exact setRow_heap _ _ _ _ _ _ RY.out)
 replace RX : Hid (Blk U7 gx 77 (u32s L)) := Lib.hid (by rw [hU]; exact (setRow_other _ _ _ _ DY.out).trans RX.out)
 replace RZ : Hid (Blk U7 g6 53 _) := Lib.hid (by rw [hU]; exact (setRow_other _ _ _ _ D6.out).trans RZ.out)
 replace BW : Hid (Below gk w U7) := Lib.hid (by rw [hU]; exact below_setRow BW.out LY.out _)
 replace RW := RW'
 clear hU RW'
 clear V
 refine (rqL7 _ _ RW.out).mono ?_
 rintro e V ⟨rfl, hb⟩
 replace BW := Lib.hid (BW.out.trans (hb.mono (by have := RY.out.lt; have := LY.out; omega)))
 replace RY := Lib.hid (RY.out.below hb)
 replace RX := Lib.hid (RX.out.below hb)
 replace RZ := Lib.hid (RZ.out.below hb)
 clear hb
 have RW' := Lib.hid (qr_w16 RW.out 3 4 9 14 (by omega) (by omega) (by omega) (by omega))
 go_wp2_with (first | (refine wpList_store_row rfl 77 _ _ rfl gy _ rfl rfl 77 _ RY.out (i46 _ RW'.out) (s46 RW.out RW'.out) (u32s_one _) ?_) | (refine wpList_load_row rfl 77 _ rfl gy rfl 77 _ (0, 0) _ (setRow_heap _ _ _ _ _ _ RY.out) Tryd.underlying77 rfl (i46 _ RW'.out) ?_))
 obtain ⟨U8, hU⟩ : ∃ U, U = V.setRow gy (u32s (qr (qr (qr (qr (qr (qr (qr (qr (drounds 0 L) 0 4 8 12) 1 5 9 13) 2 6 10 14) 3 7 11 15) 0 5 10 15) 1 6 11 12) 2 7 8 13) 3 4 9 14)) := ⟨_, rfl⟩
 rw [← hU]
 replace RY : Hid (Blk U8 gy 77 (u32s (qr (qr (qr (qr (qr (qr (qr (qr (drounds 0 L) 0 4 8 12) 1 5 9 13) 2 6 10 14) 3 7 11 15) 0 5 10 15) 1 6 11 12) 2 7 8 13) 3 4 9 14))) := Lib.hid (by rw [hU]; exact setRow_heap _ _ _ _ _ _ RY.out)
 replace RX : Hid (Blk U8 gx 77 (u32s L)) := Lib.hid (by rw [hU]; exact (setRow_other _ _ _ _ DY.out).trans RX.out)
 replace RZ : Hid (Blk U8 g6 53 _) := Lib.hid (by rw [hU]; exact (setRow_other _ _ _ _ D6.out).trans RZ.out)
 replace BW : Hid (Below gk w U8) := Lib.hid (by rw [hU]; exact below_setRow BW.out LY.out _)
 replace RW := RW'
 clear hU RW'
 clear V
 replace RY : Hid (Blk U8 gy 77 (u32s (drounds 1 L))) := RY
 clear RW
 rw [rounds_succ]
 have RW : Hid (W16 (drounds 1 L)) := Lib.hid (drounds_w16 WF.out 1)
 go_wp2_with (refine wpList_load_row rfl 77 _ rfl gy rfl 77 _ (0, 0) _ RY.out Tryd.underlying77 rfl (i46 _ RW.out) ?_)
 refine (rqL0 _ _ RW.out).mono ?_
 rintro e V ⟨rfl, hb⟩
 replace BW := Lib.hid (BW.out.trans (hb.mono (by have := RY.out.lt; have := LY.out; omega)))
 replace RY := Lib.hid (RY.out.below hb)
 replace RX := Lib.hid (RX.out.below hb)
 replace RZ := Lib.hid (RZ.out.below hb)
 clear hb
 have RW' := Lib.hid (qr_w16 RW.out 0 4 8 12 (by omega) (by omega) (by omega) (by omega))
 go_wp2_with (first | (refine wpList_store_row rfl 77 _ _ rfl gy _ rfl rfl 77 _ RY.out (i46 _ RW'.out) (s46 RW.out RW'.out) (u32s_one _) ?_) | (refine wpList_load_row rfl 77 _ rfl gy rfl 77 _ (0, 0) _ (setRow_heap _ _ _ _ _ _ RY.out) Tryd.underlying77 rfl (i46 _ RW'.out) ?_))
 obtain ⟨U9, hU⟩ : ∃ U, U = V.setRow gy (u32s (qr (drounds 1 L) 0 4 8 12)) := ⟨_, rfl⟩
 rw [← hU]
 replace RY : Hid (Blk U9 gy 77 (u32s (qr (drounds 1 L) 0 4 8 12))) := Lib.hid (by rw [hU]; exact setRow_heap _ _ _ _ _ _ RY.out)
 replace RX : Hid (Blk U9 gx 77 (u32s L)) := Lib.hid (by rw [hU]; exact (setRow_other _ _ _ _ DY.out).trans RX.out)
 replace RZ : Hid (Blk U9 g6 53 _) := Lib.hid (by rw [hU]; exact (setRow_other _ _ _ _ D6.out).trans RZ.out)
 replace BW : Hid (Below gk w U9) := Lib.hid (by rw [hU]; exact below_setRow BW.out LY.out _)
 replace RW := RW'
 clear hU RW'
 clear V
 refine (rqL1 _ _ RW.out).mono ?_
 rintro e V ⟨rfl, hb⟩
 replace BW := Lib.hid (BW.out.trans (hb.mono (by have := RY.out.lt; have := LY.out; omega)))
 replace RY := Lib.hid (RY.out.below hb)
 replace RX := Lib.hid (RX.out.below hb)
 replace RZ := Lib.hid (RZ.out.below hb)
 clear hb
 have RW' := Lib.hid (qr_w16 RW.out 1 5 9 13 (by omega) (by omega) (by omega) (by omega))
 go_wp2_with (first | (refine wpList_store_row rfl 77 _ _ rfl gy _ rfl rfl 77 _ RY.out (i46 _ RW'.out) (s46 RW.out RW'.out) (u32s_one _) ?_) | (refine wpList_load_row rfl 77 _ rfl gy rfl 77 _ (0, 0) _ (setRow_heap _ _ _ _ _ _ RY.out) Tryd.underlying77 rfl (i46 _ RW'.out) ?_))
 obtain ⟨U10, hU⟩ : ∃ U, U = V.setRow gy (u32s (qr (qr (drounds 1 L) 0 4 8 12) 1 5 9 13)) := ⟨_, rfl⟩
 rw [← hU]
 replace RY : Hid (Blk U10 gy 77 (u32s (qr (qr (drounds 1 L) 0 4 8 12) 1 5 9 13))) := Lib.hid (by rw [hU]; exact setRow_heap _ _ _ _ _ _ RY.out)
 replace RX : Hid (Blk U10 gx 77 (u32s L)) := Lib.hid (by rw [hU]; exact (setRow_other _ _ _ _ DY.out).trans RX.out)
 replace RZ : Hid (Blk U10 g6 53 _) := Lib.hid (by rw [hU]; exact (setRow_other _ _ _ _ D6.out).trans RZ.out)
 replace BW : Hid (Below gk w U10) := Lib.hid (by rw [hU]; exact below_setRow BW.out LY.out _)
 replace RW := RW'
 clear hU RW'
 clear V
 refine (rqL2 _ _ RW.out).mono ?_
 rintro e V ⟨rfl, hb⟩
 replace BW := Lib.hid (BW.out.trans (hb.mono (by have := RY.out.lt; have := LY.out; omega)))
 replace RY := Lib.hid (RY.out.below hb)
 replace RX := Lib.hid (RX.out.below hb)
 replace RZ := Lib.hid (RZ.out.below hb)
 clear hb
 have RW' := Lib.hid (qr_w16 RW.out 2 6 10 14 (by omega) (by omega) (by omega) (by omega))
 go_wp2_with (first | (refine wpList_store_row rfl 77 _ _ rfl gy _ rfl rfl 77 _ RY.out (i46 _ RW'.out) (s46 RW.out RW'.out) (u32s_one _) ?_) | (refine wpList_load_row rfl 77 _ rfl gy rfl 77 _ (0, 0) _ (setRow_heap _ _ _ _ _ _ RY.out) Tryd.underlying77 rfl (i46 _ RW'.out) ?_))
 obtain ⟨U11, hU⟩ : ∃ U, U = V.setRow gy (u32s (qr (qr (qr (drounds 1 L) 0 4 8 12) 1 5 9 13) 2 6 10 14)) := ⟨_, rfl⟩
 rw [← hU]
 replace RY : Hid (Blk U11 gy 77 (u32s (qr (qr (qr (drounds 1 L) 0 4 8 12) 1 5 9 13) 2 6 10 14))) := Lib.hid (by rw [hU]; exact setRow_heap _ _ _ _ _ _ RY.out)
 replace RX : Hid (Blk U11 gx 77 (u32s L)) := Lib.hid (by rw [hU]; exact (setRow_other _ _ _ _ DY.out).trans RX.out)
 replace RZ : Hid (Blk U11 g6 53 _) := Lib.hid (by rw [hU]; exact (setRow_other _ _ _ _ D6.out).trans RZ.out)
 replace BW : Hid (Below gk w U11) := Lib.hid (by rw [hU]; exact below_setRow BW.out LY.out _)
 replace RW := RW'
 clear hU RW'
 clear V
 refine (rqL3 _ _ RW.out).mono ?_
 rintro e V ⟨rfl, hb⟩
 replace BW := Lib.hid (BW.out.trans (hb.mono (by have := RY.out.lt; have := LY.out; omega)))
 replace RY := Lib.hid (RY.out.below hb)
 replace RX := Lib.hid (RX.out.below hb)
 replace RZ := Lib.hid (RZ.out.below hb)
 clear hb
 have RW' := Lib.hid (qr_w16 RW.out 3 7 11 15 (by omega) (by omega) (by omega) (by omega))
 go_wp2_with (first | (refine wpList_store_row rfl 77 _ _ rfl gy _ rfl rfl 77 _ RY.out (i46 _ RW'.out) (s46 RW.out RW'.out) (u32s_one _) ?_) | (refine wpList_load_row rfl 77 _ rfl gy rfl 77 _ (0, 0) _ (setRow_heap _ _ _ _ _ _ RY.out) Tryd.underlying77 rfl (i46 _ RW'.out) ?_))
 obtain ⟨U12, hU⟩ : ∃ U, U = V.setRow gy (u32s (qr (qr (qr (qr (drounds 1 L) 0 4 8 12) 1 5 9 13) 2 6 10 14) 3 7 11 15)) := ⟨_, rfl⟩
 rw [← hU]
 replace RY : Hid (Blk U12 gy 77 (u32s (qr (qr (qr (qr (drounds 1 L) 0 4 8 12) 1 5 9 13) 2 6 10 14) 3 7 11 15))) := Lib.hid (by rw [hU]; exact setRow_heap _ _ _ _ _ _ RY.out)
 replace RX : Hid (Blk U12 gx 77 (u32s L)) := Lib.hid (by rw [hU]; exact (setRow_other _ _ _ _ DY.out).trans RX.out)
 replace RZ : Hid (Blk U12 g6 53 _) := Lib.hid (by rw [hU]; exact (setRow_other _ _ _ _ D6.out).trans RZ.out)
 replace BW : Hid (Below gk w U12) := Lib.hid (by rw [hU]; exact below_setRow BW.out LY.out _)
 replace RW := RW'
 clear hU RW'
 clear V
 refine (rqL4 _ _ RW.out).mono ?_
 rintro e V ⟨rfl, hb⟩
 replace BW := Lib.hid (BW.out.trans (hb.mono (by have := RY.out.lt; have := LY.out; omega)))
 replace RY := Lib.hid (RY.out.below hb)
 replace RX := Lib.hid (RX.out.below hb)
 replace RZ := Lib.hid (RZ.out.below hb)
 clear hb
 have RW' := Lib.hid (qr_w16 RW.out 0 5 10 15 (by omega) (by omega) (by omega) (by omega))
 go_wp2_with (first | (refine wpList_store_row rfl 77 _ _ rfl gy _ rfl rfl 77 _ RY.out (i46 _ RW'.out) (s46 RW.out RW'.out) (u32s_one _) ?_) | (refine wpList_load_row rfl 77 _ rfl gy rfl 77 _ (0, 0) _ (setRow_heap _ _ _ _ _ _ RY.out) Tryd.underlying77 rfl (i46 _ RW'.out) ?_))
 obtain ⟨U13, hU⟩ : ∃ U, U = V.setRow gy (u32s (qr (qr (qr (qr (qr (drounds 1 L) 0 4 8 12) 1 5 9 13) 2 6 10 14) 3 7 11 15) 0 5 10 15)) := ⟨_, rfl⟩
 rw [← hU]
 replace RY : Hid (Blk U13 gy 77 (u32s (qr (qr (qr (qr (qr (drounds 1 L) 0 4 8 12) 1 5 9 13) 2 6 10 14) 3 7 11 15) 0 5 10 15))) := Lib.hid (by rw [hU]; exact setRow_heap _ _ _ _ _ _ RY.out)
 replace RX : Hid (Blk U13 gx 77 (u32s L)) := Lib.hid (by rw [hU]; exact (setRow_other _ _ _ _ DY.out).trans RX.out)
 replace RZ : Hid (Blk U13 g6 53 _) := Lib.hid (by rw [hU]; exact (setRow_other _ _ _ _ D6.out).trans RZ.out)
 replace BW : Hid (Below gk w U13) := Lib.hid (by rw [hU]; exact below_setRow BW.out LY.out _)
 replace RW := RW'
 clear hU RW'
 clear V
 refine (rqL5 _ _ RW.out).mono ?_
 rintro e V ⟨rfl, hb⟩
 replace BW := Lib.hid (BW.out.trans (hb.mono (by have := RY.out.lt; have := LY.out; omega)))
 replace RY := Lib.hid (RY.out.below hb)
 replace RX := Lib.hid (RX.out.below hb)
 replace RZ := Lib.hid (RZ.out.below hb)
 clear hb
 have RW' := Lib.hid (qr_w16 RW.out 1 6 11 12 (by omega) (by omega) (by omega) (by omega))
 go_wp2_with (first | (refine wpList_store_row rfl 77 _ _ rfl gy _ rfl rfl 77 _ RY.out (i46 _ RW'.out) (s46 RW.out RW'.out) (u32s_one _) ?_) | (refine wpList_load_row rfl 77 _ rfl gy rfl 77 _ (0, 0) _ (setRow_heap _ _ _ _ _ _ RY.out) Tryd.underlying77 rfl (i46 _ RW'.out) ?_))
 obtain ⟨U14, hU⟩ : ∃ U, U = V.setRow gy (u32s (qr (qr (qr (qr (qr (qr (drounds 1 L) 0 4 8 12) 1 5 9 13) 2 6 10 14) 3 7 11 15) 0 5 10 15) 1 6 11 12)) := ⟨_, rfl⟩
 rw [← hU]
 replace RY : Hid (Blk U14 gy 77 (u32s (qr (qr (qr (qr (qr (qr (drounds 1 L) 0 4 8 12) 1 5 9 13) 2 6 10 14) 3 7 11 15) 0 5 10 15) 1 6 11 12))) := Lib.hid (by rw [hU]; exact setRow_heap _ _ _ _ _ _ RY.out)
 replace RX : Hid (Blk U14 gx 77 (u32s L)) := Lib.hid (by rw [hU]; exact (setRow_other _ _ _ _ DY.out).trans RX.out)
 replace RZ : Hid (Blk U14 g6 53 _) := Lib.hid (by rw [hU]; exact (setRow_other _ _ _ _ D6.out).trans RZ.out)
 replace BW : Hid (Below gk w U14) := Lib.hid (by rw [hU]; exact below_setRow BW.out LY.out _)
 replace RW := RW'
 clear hU RW'
 clear V
 refine (rqL6 _ _ RW.out).mono ?_
 rintro e V ⟨rfl, hb⟩
 replace BW := Lib.hid (BW.out.trans (hb.mono (by have := RY.out.lt; have := LY.out; omega)))
 replace RY := Lib.hid (RY.out.below hb)
 replace RX := Lib.hid (RX.out.below hb)
 replace RZ := Lib.hid (RZ.out.below hb)
 clear hb
 have RW' := Lib.hid (qr_w16 RW.out 2 7 8 13 (by omega) (by omega) (by omega) (by omega))
 go_wp2_with (first | (refine wpList_store_row rfl 77 _ _ rfl gy _ rfl rfl 77 _ RY.out (i46 _ RW'.out) (s46 RW.out RW'.out) (u32s_one _) ?_) | (refine wpList_load_row rfl 77 _ rfl gy rfl 77 _ (0, 0) _ (setRow_heap _ _ _ _ _ _ RY.out) Tryd.underlying77 rfl (i46 _ RW'.out) ?_))
 obtain ⟨U15, hU⟩ : ∃ U, U = V.setRow gy (u32s (qr (qr (qr (qr (qr (qr (qr (drounds 1 L) 0 4 8 12) 1 5 9 13) 2 6 10 14) 3 7 11 15) 0 5 10 15) 1 6 11 12) 2 7 8 13)) := ⟨_, rfl⟩
 rw [← hU]
 replace RY : Hid (Blk U15 gy 77 (u32s (qr (qr (qr (qr (qr (qr (qr (drounds 1 L) 0 4 8 12) 1 5 9 13) 2 6 10 14) 3 7 11 15) 0 5 10 15) 1 6 11 12) 2 7 8 13))) := Lib.hid (by rw [hU]; exact setRow_heap _ _ _ _ _ _ RY.out)
 replace RX : Hid (Blk U15 gx 77 (u32s L)) := Lib.hid (by rw [hU]; exact (setRow_other _ _ _ _ DY.out).trans RX.out)
 replace RZ : Hid (Blk U15 g6 53 _) := Lib.hid (by rw [hU]; exact (setRow_other _ _ _ _ D6.out).trans RZ.out)
 replace BW : Hid (Below gk w U15) := Lib.hid (by rw [hU]; exact below_setRow BW.out LY.out _)
 replace RW := RW'
 clear hU RW'
 clear V
 refine (rqL7 _ _ RW.out).mono ?_
 rintro e V ⟨rfl, hb⟩
 replace BW := Lib.hid (BW.out.trans (hb.mono (by have := RY.out.lt; have := LY.out; omega)))
 replace RY := Lib.hid (RY.out.below hb)
 replace RX := Lib.hid (RX.out.below hb)
 replace RZ := Lib.hid (RZ.out.below hb)
 clear hb
 have RW' := Lib.hid (qr_w16 RW.out 3 4 9 14 (by omega) (by omega) (by omega) (by omega))
 go_wp2_with (first | (refine wpList_store_row rfl 77 _ _ rfl gy _ rfl rfl 77 _ RY.out (i46 _ RW'.out) (s46 RW.out RW'.out) (u32s_one _) ?_) | (refine wpList_load_row rfl 77 _ rfl gy rfl 77 _ (0, 0) _ (setRow_heap _ _ _ _ _ _ RY.out) Tryd.underlying77 rfl (i46 _ RW'.out) ?_))
 obtain ⟨U16, hU⟩ : ∃ U, U = V.setRow gy (u32s (qr (qr (qr (qr (qr (qr (qr (qr (drounds 1 L) 0 4 8 12) 1 5 9 13) 2 6 10 14) 3 7 11 15) 0 5 10 15) 1 6 11 12) 2 7 8 13) 3 4 9 14)) := ⟨_, rfl⟩
 rw [← hU]
 replace RY : Hid (Blk U16 gy 77 (u32s (qr (qr (qr (qr (qr (qr (qr (qr (drounds 1 L) 0 4 8 12) 1 5 9 13) 2 6 10 14) 3 7 11 15) 0 5 10 15) 1 6 11 12) 2 7 8 13) 3 4 9 14))) := Lib.hid (by rw [hU]; exact setRow_heap _ _ _ _ _ _ RY.out)
 replace RX : Hid (Blk U16 gx 77 (u32s L)) := Lib.hid (by rw [hU]; exact (setRow_other _ _ _ _ DY.out).trans RX.out)
 replace RZ : Hid (Blk U16 g6 53 _) := Lib.hid (by rw [hU]; exact (setRow_other _ _ _ _ D6.out).trans RZ.out)
 replace BW : Hid (Below gk w U16) := Lib.hid (by rw [hU]; exact below_setRow BW.out LY.out _)
 replace RW := RW'
 clear hU RW'
 clear V
 replace RY : Hid (Blk U16 gy 77 (u32s (drounds 2 L))) := RY
 clear RW
 rw [rounds_succ]
 have RW : Hid (W16 (drounds 2 L)) := Lib.hid (drounds_w16 WF.out 2)
 go_wp2_with (refine wpList_load_row rfl 77 _ rfl gy rfl 77 _ (0, 0) _ RY.out Tryd.underlying77 rfl (i46 _ RW.out) ?_)
 refine (rqL0 _ _ RW.out).mono ?_
 rintro e V ⟨rfl, hb⟩
 replace BW := Lib.hid (BW.out.trans (hb.mono (by have := RY.out.lt; have := LY.out; omega)))
 replace RY := Lib.hid (RY.out.below hb)
 replace RX := Lib.hid (RX.out.below hb)
 replace RZ := Lib.hid (RZ.out.below hb)
 clear hb
 have RW' := Lib.hid (qr_w16 RW.out 0 4 8 12 (by omega) (by omega) (by omega) (by omega))
 go_wp2_with (first | (refine wpList_store_row rfl 77 _ _ rfl gy _ rfl rfl 77 _ RY.out (i46 _ RW'.out) (s46 RW.out RW'.out) (u32s_one _) ?_) | (refine wpList_load_row rfl 77 _ rfl gy rfl 77 _ (0, 0) _ (setRow_heap _ _ _ _ _ _ RY.out) Tryd.underlying77 rfl (i46 _ RW'.out) ?_))
 obtain ⟨U17, hU⟩ : ∃ U, U = V.setRow gy (u32s (qr (drounds 2 L) 0 4 8 12)) := ⟨_, rfl⟩
 rw [← hU]
 replace RY : Hid (Blk U17 gy 77 (u32s (qr (drounds 2 L) 0 4 8 12))) := Lib.hid (by rw [hU]; exact setRow_heap _ _ _ _ _ _ RY.out)
 replace RX : Hid (Blk U17 gx 77 (u32s L)) := Lib.hid (by rw [hU]; exact (setRow_other _ _ _ _ DY.out).trans RX.out)
 replace RZ : Hid (Blk U17 g6 53 _) := Lib.hid (by rw [hU]; exact (setRow_other _ _ _ _ D6.out).trans RZ.out)
 replace BW : Hid (Below gk w U17) := Lib.hid (by rw [hU]; exact below_setRow BW.out LY.out _)
 replace RW := RW'
 clear hU RW'
 clear V
 refine (rqL1 _ _ RW.out).mono ?_
 rintro e V ⟨rfl, hb⟩
 replace BW := Lib.hid (BW.out.trans (hb.mono (by have := RY.out.lt; have := LY.out; omega)))
 replace RY := Lib.hid (RY.out.below hb)
 replace RX := Lib.hid (RX.out.below hb)
 replace RZ := Lib.hid (RZ.out.below hb)
 clear hb
 have RW' := Lib.hid (qr_w16 RW.out 1 5 9 13 (by omega) (by omega) (by omega) (by omega))
 go_wp2_with (first | (refine wpList_store_row rfl 77 _ _ rfl gy _ rfl rfl 77 _ RY.out (i46 _ RW'.out) (s46 RW.out RW'.out) (u32s_one _) ?_) | (refine wpList_load_row rfl 77 _ rfl gy rfl 77 _ (0, 0) _ (setRow_heap _ _ _ _ _ _ RY.out) Tryd.underlying77 rfl (i46 _ RW'.out) ?_))
 obtain ⟨U18, hU⟩ : ∃ U, U = V.setRow gy (u32s (qr (qr (drounds 2 L) 0 4 8 12) 1 5 9 13)) := ⟨_, rfl⟩
 rw [← hU]
 replace RY : Hid (Blk U18 gy 77 (u32s (qr (qr (drounds 2 L) 0 4 8 12) 1 5 9 13))) := Lib.hid (by rw [hU]; exact setRow_heap _ _ _ _ _ _ RY.out)
 replace RX : Hid (Blk U18 gx 77 (u32s L)) := Lib.hid (by rw [hU]; exact (setRow_other _ _ _ _ DY.out).trans RX.out)
 replace RZ : Hid (Blk U18 g6 53 _) := Lib.hid (by rw [hU]; exact (setRow_other _ _ _ _ D6.out).trans RZ.out)
 replace BW : Hid (Below gk w U18) := Lib.hid (by rw [hU]; exact below_setRow BW.out LY.out _)
 replace RW := RW'
 clear hU RW'
 clear V
 refine (rqL2 _ _ RW.out).mono ?_
 rintro e V ⟨rfl, hb⟩
 replace BW := Lib.hid (BW.out.trans (hb.mono (by have := RY.out.lt; have := LY.out; omega)))
 replace RY := Lib.hid (RY.out.below hb)
 replace RX := Lib.hid (RX.out.below hb)
 replace RZ := Lib.hid (RZ.out.below hb)
 clear hb
 have RW' := Lib.hid (qr_w16 RW.out 2 6 10 14 (by omega) (by omega) (by omega) (by omega))
 go_wp2_with (first | (refine wpList_store_row rfl 77 _ _ rfl gy _ rfl rfl 77 _ RY.out (i46 _ RW'.out) (s46 RW.out RW'.out) (u32s_one _) ?_) | (refine wpList_load_row rfl 77 _ rfl gy rfl 77 _ (0, 0) _ (setRow_heap _ _ _ _ _ _ RY.out) Tryd.underlying77 rfl (i46 _ RW'.out) ?_))
 obtain ⟨U19, hU⟩ : ∃ U, U = V.setRow gy (u32s (qr (qr (qr (drounds 2 L) 0 4 8 12) 1 5 9 13) 2 6 10 14)) := ⟨_, rfl⟩
 rw [← hU]
 replace RY : Hid (Blk U19 gy 77 (u32s (qr (qr (qr (drounds 2 L) 0 4 8 12) 1 5 9 13) 2 6 10 14))) := Lib.hid (by rw [hU]; exact setRow_heap _ _ _ _ _ _ RY.out)
 replace RX : Hid (Blk U19 gx 77 (u32s L)) := Lib.hid (by rw [hU]; exact (setRow_other _ _ _ _ DY.out).trans RX.out)
 replace RZ : Hid (Blk U19 g6 53 _) := Lib.hid (by rw [hU]; exact (setRow_other _ _ _ _ D6.out).trans RZ.out)
 replace BW : Hid (Below gk w U19) := Lib.hid (by rw [hU]; exact below_setRow BW.out LY.out _)
 replace RW := RW'
 clear hU RW'
 clear V
 refine (rqL3 _ _ RW.out).mono ?_
 rintro e V ⟨rfl, hb⟩
 replace BW := Lib.hid (BW.out.trans (hb.mono (by have := RY.out.lt; have := LY.out; omega)))
 replace RY := Lib.hid (RY.out.below hb)
 replace RX := Lib.hid (RX.out.below hb)
 replace RZ := Lib.hid (RZ.out.below hb)
 clear hb
 have RW' := Lib.hid (qr_w16 RW.out 3 7 11 15 (by omega) (by omega) (by omega) (by omega))
 go_wp2_with (first | (refine wpList_store_row rfl 77 _ _ rfl gy _ rfl rfl 77 _ RY.out (i46 _ RW'.out) (s46 RW.out RW'.out) (u32s_one _) ?_) | (refine wpList_load_row rfl 77 _ rfl gy rfl 77 _ (0, 0) _ (setRow_heap _ _ _ _ _ _ RY.out) Tryd.underlying77 rfl (i46 _ RW'.out) ?_))
 obtain ⟨U20, hU⟩ : ∃ U, U = V.setRow gy (u32s (qr (qr (qr (qr (drounds 2 L) 0 4 8 12) 1 5 9 13) 2 6 10 14) 3 7 11 15)) := ⟨_, rfl⟩
 rw [← hU]
 replace RY : Hid (Blk U20 gy 77 (u32s (qr (qr (qr (qr (drounds 2 L) 0 4 8 12) 1 5 9 13) 2 6 10 14) 3 7 11 15))) := Lib.hid (by rw [hU]; exact setRow_heap _ _ _ _ _ _ RY.out)
 replace RX : Hid (Blk U20 gx 77 (u32s L)) := Lib.hid (by rw [hU]; exact (setRow_other _ _ _ _ DY.out).trans RX.out)
 replace RZ : Hid (Blk U20 g6 53 _) := Lib.hid (by rw [hU]; exact (setRow_other _ _ _ _ D6.out).trans RZ.out)
 replace BW : Hid (Below gk w U20) := Lib.hid (by rw [hU]; exact below_setRow BW.out LY.out _)
 replace RW := RW'
 clear hU RW'
 clear V
 refine (rqL4 _ _ RW.out).mono ?_
 rintro e V ⟨rfl, hb⟩
 replace BW := Lib.hid (BW.out.trans (hb.mono (by have := RY.out.lt; have := LY.out; omega)))
 replace RY := Lib.hid (RY.out.below hb)
 replace RX := Lib.hid (RX.out.below hb)
 replace RZ := Lib.hid (RZ.out.below hb)
 clear hb
 have RW' := Lib.hid (qr_w16 RW.out 0 5 10 15 (by omega) (by omega) (by omega) (by omega))
 go_wp2_with (first | (refine wpList_store_row rfl 77 _ _ rfl gy _ rfl rfl 77 _ RY.out (i46 _ RW'.out) (s46 RW.out RW'.out) (u32s_one _) ?_) | (refine wpList_load_row rfl 77 _ rfl gy rfl 77 _ (0, 0) _ (setRow_heap _ _ _ _ _ _ RY.out) Tryd.underlying77 rfl (i46 _ RW'.out) ?_))
 obtain ⟨U21, hU⟩ : ∃ U, U = V.setRow gy (u32s (qr (qr (qr (qr (qr (drounds 2 L) 0 4 8 12) 1 5 9 13) 2 6 10 14) 3 7 11 15) 0 5 10 15)) := ⟨_, rfl⟩
 rw [← hU]
 replace RY : Hid (Blk U21 gy 77 (u32s (qr (qr (qr (qr (qr (drounds 2 L) 0 4 8 12) 1 5 9 13) 2 6 10 14) 3 7 11 15) 0 5 10 15))) := Lib.hid (by rw [hU]; exact setRow_heap _ _ _ _ _ _ RY.out)
 replace RX : Hid (Blk U21 gx 77 (u32s L)) := Lib.hid (by rw [hU]; exact (setRow_other _ _ _ _ DY.out).trans RX.out)
 replace RZ : Hid (Blk U21 g6 53 _) := Lib.hid (by rw [hU]; exact (setRow_other _ _ _ _ D6.out).trans RZ.out)
 replace BW : Hid (Below gk w U21) := Lib.hid (by rw [hU]; exact below_setRow BW.out LY.out _)
 replace RW := RW'
 clear hU RW'
 clear V
 refine (rqL5 _ _ RW.out).mono ?_
 rintro e V ⟨rfl, hb⟩
 replace BW := Lib.hid (BW.out.trans (hb.mono (by have := RY.out.lt; have := LY.out; omega)))
 replace RY := Lib.hid (RY.out.below hb)
 replace RX := Lib.hid (RX.out.below hb)
 replace RZ := Lib.hid (RZ.out.below hb)
 clear hb
 have RW' := Lib.hid (qr_w16 RW.out 1 6 11 12 (by omega) (by omega) (by omega) (by omega))
 go_wp2_with (first | (refine wpList_store_row rfl 77 _ _ rfl gy _ rfl rfl 77 _ RY.out (i46 _ RW'.out) (s46 RW.out RW'.out) (u32s_one _) ?_) | (refine wpList_load_row rfl 77 _ rfl gy rfl 77 _ (0, 0) _ (setRow_heap _ _ _ _ _ _ RY.out) Tryd.underlying77 rfl (i46 _ RW'.out) ?_))
 obtain ⟨U22, hU⟩ : ∃ U, U = V.setRow gy (u32s (qr (qr (qr (qr (qr (qr (drounds 2 L) 0 4 8 12) 1 5 9 13) 2 6 10 14) 3 7 11 15) 0 5 10 15) 1 6 11 12)) := ⟨_, rfl⟩
 rw [← hU]
 replace RY : Hid (Blk U22 gy 77 (u32s (qr (qr (qr (qr (qr (qr (drounds 2 L) 0 4 8 12) 1 5 9 13) 2 6 10 14) 3 7 11 15) 0 5 10 15) 1 6 11 12))) := Lib.hid (by rw [hU]; exact setRow_heap _ _ _ _ _ _ RY.out)
 replace RX : Hid (Blk U22 gx 77 (u32s L)) := Lib.hid (by rw [hU]; exact (setRow_other _ _ _ _ DY.out).trans RX.out)
 replace RZ : Hid (Blk U22 g6 53 _) := Lib.hid (by rw [hU]; exact (setRow_other _ _ _ _ D6.out).trans RZ.out)
 replace BW : Hid (Below gk w U22) := Lib.hid (by rw [hU]; exact below_setRow BW.out LY.out _)
 replace RW := RW'
 clear hU RW'
 clear V
 refine (rqL6 _ _ RW.out).mono ?_
 rintro e V ⟨rfl, hb⟩
 replace BW := Lib.hid (BW.out.trans (hb.mono (by have := RY.out.lt; have := LY.out; omega)))
 replace RY := Lib.hid (RY.out.below hb)
 replace RX := Lib.hid (RX.out.below hb)
 replace RZ := Lib.hid (RZ.out.below hb)
 clear hb
 have RW' := Lib.hid (qr_w16 RW.out 2 7 8 13 (by omega) (by omega) (by omega) (by omega))
 go_wp2_with (first | (refine wpList_store_row rfl 77 _ _ rfl gy _ rfl rfl 77 _ RY.out (i46 _ RW'.out) (s46 RW.out RW'.out) (u32s_one _) ?_) | (refine wpList_load_row rfl 77 _ rfl gy rfl 77 _ (0, 0) _ (setRow_heap _ _ _ _ _ _ RY.out) Tryd.underlying77 rfl (i46 _ RW'.out) ?_))
 obtain ⟨U23, hU⟩ : ∃ U, U = V.setRow gy (u32s (qr (qr (qr (qr (qr (qr (qr (drounds 2 L) 0 4 8 12) 1 5 9 13) 2 6 10 14) 3 7 11 15) 0 5 10 15) 1 6 11 12) 2 7 8 13)) := ⟨_, rfl⟩
 rw [← hU]
 replace RY : Hid (Blk U23 gy 77 (u32s (qr (qr (qr (qr (qr (qr (qr (drounds 2 L) 0 4 8 12) 1 5 9 13) 2 6 10 14) 3 7 11 15) 0 5 10 15) 1 6 11 12) 2 7 8 13))) := Lib.hid (by rw [hU]; exact setRow_heap _ _ _ _ _ _ RY.out)
 replace RX : Hid (Blk U23 gx 77 (u32s L)) := Lib.hid (by rw [hU]; exact (setRow_other _ _ _ _ DY.out).trans RX.out)
 replace RZ : Hid (Blk U23 g6 53 _) := Lib.hid (by rw [hU]; exact (setRow_other _ _ _ _ D6.out).trans RZ.out)
 replace BW : Hid (Below gk w U23) := Lib.hid (by rw [hU]; exact below_setRow BW.out LY.out _)
 replace RW := RW'
 clear hU RW'
 clear V
 refine (rqL7 _ _ RW.out).mono ?_
 rintro e V ⟨rfl, hb⟩
 replace BW := Lib.hid (BW.out.trans (hb.mono (by have := RY.out.lt; have := LY.out; omega)))
 replace RY := Lib.hid (RY.out.below hb)
 replace RX := Lib.hid (RX.out.below hb)
 replace RZ := Lib.hid (RZ.out.below hb)
 clear hb
 have RW' := Lib.hid (qr_w16 RW.out 3 4 9 14 (by omega) (by omega) (by omega) (by omega))
 go_wp2_with (first | (refine wpList_store_row rfl 77 _ _ rfl gy _ rfl rfl 77 _ RY.out (i46 _ RW'.out) (s46 RW.out RW'.out) (u32s_one _) ?_) | (refine wpList_load_row rfl 77 _ rfl gy rfl 77 _ (0, 0) _ (setRow_heap _ _ _ _ _ _ RY.out) Tryd.underlying77 rfl (i46 _ RW'.out) ?_))
 obtain ⟨U24, hU⟩ : ∃ U, U = V.setRow gy (u32s (qr (qr (qr (qr (qr (qr (qr (qr (drounds 2 L) 0 4 8 12) 1 5 9 13) 2 6 10 14) 3 7 11 15) 0 5 10 15) 1 6 11 12) 2 7 8 13) 3 4 9 14)) := ⟨_, rfl⟩
 rw [← hU]
 replace RY : Hid (Blk U24 gy 77 (u32s (qr (qr (qr (qr (qr (qr (qr (qr (drounds 2 L) 0 4 8 12) 1 5 9 13) 2 6 10 14) 3 7 11 15) 0 5 10 15) 1 6 11 12) 2 7 8 13) 3 4 9 14))) := Lib.hid (by rw [hU]; exact setRow_heap _ _ _ _ _ _ RY.out)
 replace RX : Hid (Blk U24 gx 77 (u32s L)) := Lib.hid (by rw [hU]; exact (setRow_other _ _ _ _ DY.out).trans RX.out)
 replace RZ : Hid (Blk U24 g6 53 _) := Lib.hid (by rw [hU]; exact (setRow_other _ _ _ _ D6.out).trans RZ.out)
 replace BW : Hid (Below gk w U24) := Lib.hid (by rw [hU]; exact below_setRow BW.out LY.out _)
 replace RW := RW'
 clear hU RW'
 clear V
 replace RY : Hid (Blk U24 gy 77 (u32s (drounds 3 L))) := RY
 clear RW
 rw [rounds_succ]
 have RW : Hid (W16 (drounds 3 L)) := Lib.hid (drounds_w16 WF.out 3)
 go_wp2_with (refine wpList_load_row rfl 77 _ rfl gy rfl 77 _ (0, 0) _ RY.out Tryd.underlying77 rfl (i46 _ RW.out) ?_)
 refine (rqL0 _ _ RW.out).mono ?_
 rintro e V ⟨rfl, hb⟩
 replace BW := Lib.hid (BW.out.trans (hb.mono (by have := RY.out.lt; have := LY.out; omega)))
 replace RY := Lib.hid (RY.out.below hb)
 replace RX := Lib.hid (RX.out.below hb)
 replace RZ := Lib.hid (RZ.out.below hb)
 clear hb
 have RW' := Lib.hid (qr_w16 RW.out 0 4 8 12 (by omega) (by omega) (by omega) (by omega))
 go_wp2_with (first | (refine wpList_store_row rfl 77 _ _ rfl gy _ rfl rfl 77 _ RY.out (i46 _ RW'.out) (s46 RW.out RW'.out) (u32s_one _) ?_) | (refine wpList_load_row rfl 77 _ rfl gy rfl 77 _ (0, 0) _ (setRow_heap _ _ _ _ _ _ RY.out) Tryd.underlying77 rfl (i46 _ RW'.out) ?_))
 obtain ⟨U25, hU⟩ : ∃ U, U = V.setRow gy (u32s (qr (drounds 3 L) 0 4 8 12)) := ⟨_, rfl⟩
 rw [← hU]
 replace RY : Hid (Blk U25 gy 77 (u32s (qr (drounds 3 L) 0 4 8 12))) := Lib.hid (by rw [hU]; exact setRow_heap _ _ _ _ _ _ RY.out)
 replace RX : Hid (Blk U25 gx 77 (u32s L)) := Lib.hid (by rw [hU]; exact (setRow_other _ _ _ _ DY.out).trans RX.out)
 replace RZ : Hid (Blk U25 g6 53 _) := Lib.hid (by rw [hU]; exact (setRow_other _ _ _ _ D6.out).trans RZ.out)
 replace BW : Hid (Below gk w U25) := Lib.hid (by rw [hU]; exact below_setRow BW.out LY.out _)
 replace RW := RW'
 clear hU RW'
 clear V
 refine (rqL1 _ _ RW.out).mono ?_
 rintro e V ⟨rfl, hb⟩
 replace BW := Lib.hid (BW.out.trans (hb.mono (by have := RY.out.lt; have := LY.out; omega)))
 replace RY := Lib.hid (RY.out.below hb)
 replace RX := Lib.hid (RX.out.below hb)
 replace RZ := Lib.hid (RZ.out.below hb)
 clear hb
 have RW' := Lib.hid (qr_w16 RW.out 1 5 9 13 (by omega) (by omega) (by omega) (by omega))
 go_wp2_with (first | (refine wpList_store_row rfl 77 _ _ rfl gy _ rfl rfl 77 _ RY.out (i46 _ RW'.out) (s46 RW.out RW'.out) (u32s_one _) ?_) | (refine wpList_load_row rfl 77 _ rfl gy rfl 77 _ (0, 0) _ (setRow_heap _ _ _ _ _ _ RY.out) Tryd.underlying77 rfl (i46 _ RW'.out) ?_))
 obtain ⟨U26, hU⟩ : ∃ U, U = V.setRow gy (u32s (qr (qr (drounds 3 L) 0 4 8 12) 1 5 9 13)) := ⟨_, rfl⟩
 rw [← hU]
 replace RY : Hid (Blk U26 gy 77 (u32s (qr (qr (drounds 3 L) 0 4 8 12) 1 5 9 13))) := Lib.hid (by rw [hU]; exact setRow_heap _ _ _ _ _ _ RY.out)
 replace RX : Hid (Blk U26 gx 77 (u32s L)) := Lib.hid (by rw [hU]; exact (setRow_other _ _ _ _ DY.out).trans RX.out)
 replace RZ : Hid (Blk U26 g6 53 _) := Lib.hid (by rw [hU]; exact (setRow_other _ _ _ _ D6.out).trans RZ.out)
 replace BW : Hid (Below gk w U26) := Lib.hid (by rw [hU]; exact below_setRow BW.out LY.out _)
 replace RW := RW'
 clear hU RW'
 clear V
 refine (rqL2 _ _ RW.out).mono ?_
 rintro e V ⟨rfl, hb⟩
 replace BW := Lib.hid (BW.out.trans (hb.mono (by have := RY.out.lt; have := LY.out; omega)))
 replace RY := Lib.hid (RY.out.below hb)
 replace RX := Lib.hid (RX.out.below hb)
 replace RZ := Lib.hid (RZ.out.below hb)
 clear hb
 have RW' := Lib.hid (qr_w16 RW.out 2 6 10 14 (by omega) (by omega) (by omega) (by omega))
 go_wp2_with (first | (refine wpList_store_row rfl 77 _ _ rfl gy _ rfl rfl 77 _ RY.out (i46 _ RW'.out) (s46 RW.out RW'.out) (u32s_one _) ?_) | (refine wpList_load_row rfl 77 _ rfl gy rfl 77 _ (0, 0) _ (setRow_heap _ _ _ _ _ _ RY.out) Tryd.underlying77 rfl (i46 _ RW'.out) ?_))
 obtain ⟨U27, hU⟩ : ∃ U, U = V.setRow gy (u32s (qr (qr (qr (drounds 3 L) 0 4 8 12) 1 5 9 13) 2 6 10 14)) := ⟨_, rfl⟩
 rw [← hU]
 replace RY : Hid (Blk U27 gy 77 (u32s (qr (qr (qr (drounds 3 L) 0 4 8 12) 1 5 9 13) 2 6 10 14))) := Lib.hid (by rw [hU]; exact setRow_heap _ _ _ _ _ _ RY.out)
 replace RX : Hid (Blk U27 gx 77 (u32s L)) := Lib.hid (by rw [hU]; exact (setRow_other _ _ _ _ DY.out).trans RX.out)
 replace RZ : Hid (Blk U27 g6 53 _) := Lib.hid (by rw [hU]; exact (setRow_other _ _ _ _ D6.out).trans RZ.out)
 replace BW : Hid (Below gk w U27) := Lib.hid (by rw [hU]; exact below_setRow BW.out LY.out _)
 replace RW := RW'
 clear hU RW'
 clear V
 refine (rqL3 _ _ RW.out).mono ?_
 rintro e V ⟨rfl, hb⟩
 replace BW := Lib.hid (BW.out.trans (hb.mono (by have := RY.out.lt; have := LY.out; omega)))
 replace RY := Lib.hid (RY.out.below hb)
 replace RX := Lib.hid (RX.out.below hb)
 replace RZ := Lib.hid (RZ.out.below hb)
 clear hb
 have RW' := Lib.hid (qr_w16 RW.out 3 7 11 15 (by omega) (by omega) (by omega) (by omega))
 go_wp2_with (first | (refine wpList_store_row rfl 77 _ _ rfl gy _ rfl rfl 77 _ RY.out (i46 _ RW'.out) (s46 RW.out RW'.out) (u32s_one _) ?_) | (refine wpList_load_row rfl 77 _ rfl gy rfl 77 _ (0, 0) _ (setRow_heap _ _ _ _ _ _ RY.out) Tryd.underlying77 rfl (i46 _ RW'.out) ?_))
 obtain ⟨U28, hU⟩ : ∃ U, U = V.setRow gy (u32s (qr (qr (qr (qr (drounds 3 L) 0 4 8 12) 1 5 9 13) 2 6 10 14) 3 7 11 15)) := ⟨_, rfl⟩
 rw [← hU]
 replace RY : Hid (Blk U28 gy 77 (u32s (qr (qr (qr (qr (drounds 3 L) 0 4 8 12) 1 5 9 13) 2 6 10 14) 3 7 11 15))) := Lib.hid (by rw [hU]; exact setRow_heap _ _ _ _ _ _ RY.out)
 replace RX : Hid (Blk U28 gx 77 (u32s L)) := Lib.hid (by rw [hU]; exact (setRow_other _ _ _ _ DY.out).trans RX.out)
 replace RZ : Hid (Blk U28 g6 53 _) := Lib.hid (by rw [hU]; exact (setRow_other _ _ _ _ D6.out).trans RZ.out)
 replace BW : Hid (Below gk w U28) := Lib.hid (by rw [hU]; exact below_setRow BW.out LY.out _)
 replace RW := RW'
 clear hU RW'
 clear V
 refine (rqL4 _ _ RW.out).mono ?_
 rintro e V ⟨rfl, hb⟩
 replace BW := Lib.hid (BW.out.trans (hb.mono (by have := RY.out.lt; have := LY.out; omega)))
 replace RY := Lib.hid (RY.out.below hb)
 replace RX := Lib.hid (RX.out.below hb)
 replace RZ := Lib.hid (RZ.out.below hb)
 clear hb
 have RW' := Lib.hid (qr_w16 RW.out 0 5 10 15 (by omega) (by omega) (by omega) (by omega))
 go_wp2_with (first | (refine wpList_store_row rfl 77 _ _ rfl gy _ rfl rfl 77 _ RY.out (i46 _ RW'.out) (s46 RW.out RW'.out) (u32s_one _) ?_) | (refine wpList_load_row rfl 77 _ rfl gy rfl 77 _ (0, 0) _ (setRow_heap _ _ _ _ _ _ RY.out) Tryd.underlying77 rfl (i46 _ RW'.out) ?_))
 obtain ⟨U29, hU⟩ : ∃ U, U = V.setRow gy (u32s (qr (qr (qr (qr (qr (drounds 3 L) 0 4 8 12) 1 5 9 13) 2 6 10 14) 3 7 11 15) 0 5 10 15)) := ⟨_, rfl⟩
 rw [← hU]
 replace RY : Hid (Blk U29 gy 77 (u32s (qr (qr (qr (qr (qr (drounds 3 L) 0 4 8 12) 1 5 9 13) 2 6 10 14) 3 7 11 15) 0 5 10 15))) := Lib.hid (by rw [hU]; exact setRow_heap _ _ _ _ _ _ RY.out)
 replace RX : Hid (Blk U29 gx 77 (u32s L)) := Lib.hid (by rw [hU]; exact (setRow_other _ _ _ _ DY.out).trans RX.out)
 replace RZ : Hid (Blk U29 g6 53 _) := Lib.hid (by rw [hU]; exact (setRow_other _ _ _ _ D6.out).trans RZ.out)
 replace BW : Hid (Below gk w U29) := Lib.hid (by rw [hU]; exact below_setRow BW.out LY.out _)
 replace RW := RW'
 clear hU RW'
 clear V
 refine (rqL5 _ _ RW.out).mono ?_
 rintro e V ⟨rfl, hb⟩
 replace BW := Lib.hid (BW.out.trans (hb.mono (by have := RY.out.lt; have := LY.out; omega)))
 replace RY := Lib.hid (RY.out.below hb)
 replace RX := Lib.hid (RX.out.below hb)
 replace RZ := Lib.hid (RZ.out.below hb)
 clear hb
 have RW' := Lib.hid (qr_w16 RW.out 1 6 11 12 (by omega) (by omega) (by omega) (by omega))
 go_wp2_with (first | (refine wpList_store_row rfl 77 _ _ rfl gy _ rfl rfl 77 _ RY.out (i46 _ RW'.out) (s46 RW.out RW'.out) (u32s_one _) ?_) | (refine wpList_load_row rfl 77 _ rfl gy rfl 77 _ (0, 0) _ (setRow_heap _ _ _ _ _ _ RY.out) Tryd.underlying77 rfl (i46 _ RW'.out) ?_))
 obtain ⟨U30, hU⟩ : ∃ U, U = V.setRow gy (u32s (qr (qr (qr (qr (qr (qr (drounds 3 L) 0 4 8 12) 1 5 9 13) 2 6 10 14) 3 7 11 15) 0 5 10 15) 1 6 11 12)) := ⟨_, rfl⟩
 rw [← hU]
 replace RY : Hid (Blk U30 gy 77 (u32s (qr (qr (qr (qr (qr (qr (drounds 3 L) 0 4 8 12) 1 5 9 13) 2 6 10 14) 3 7 11 15) 0 5 10 15) 1 6 11 12))) := Lib.hid (by rw [hU]; exact setRow_heap _ _ _ _ _ _ RY.out)
 replace RX : Hid (Blk U30 gx 77 (u32s L)) := Lib.hid (by rw [hU]; exact (setRow_other _ _ _ _ DY.out).trans RX.out)
 replace RZ : Hid (Blk U30 g6 53 _) := Lib.hid (by rw [hU]; exact (setRow_other _ _ _ _ D6.out).trans RZ.out)
 replace BW : Hid (Below gk w U30) := Lib.hid (by rw [hU]; exact below_setRow BW.out LY.out _)
 replace RW := RW'
 clear hU RW'
 clear V
 refine (rqL6 _ _ RW.out).mono ?_
 rintro e V ⟨rfl, hb⟩
 replace BW := Lib.hid (BW.out.trans (hb.mono (by have := RY.out.lt; have := LY.out; omega)))
 replace RY := Lib.hid (RY.out.below hb)
 replace RX := Lib.hid (RX.out.below hb)
 replace RZ := Lib.hid (RZ.out.below hb)
 clear hb
 have RW' := Lib.hid (qr_w16 RW.out 2 7 8 13 (by omega) (by omega) (by omega) (by omega))
 go_wp2_with (first | (refine wpList_store_row rfl 77 _ _ rfl gy _ rfl rfl 77 _ RY.out (i46 _ RW'.out) (s46 RW.out RW'.out) (u32s_one _) ?_) | (refine wpList_load_row rfl 77 _ rfl gy rfl 77 _ (0, 0) _ (setRow_heap _ _ _ _ _ _ RY.out) Tryd.underlying77 rfl (i46 _ RW'.out) ?_))
 obtain ⟨U31, hU⟩ : ∃ U, U = V.setRow gy (u32s (qr (qr (qr (qr (qr (qr (qr (drounds 3 L) 0 4 8 12) 1 5 9 13) 2 6 10 14) 3 7 11 15) 0 5 10 15) 1 6 11 12) 2 7 8 13)) := ⟨_, rfl⟩
 rw [← hU]
 replace RY : Hid (Blk U31 gy 77 (u32s (qr (qr (qr (qr (qr (qr (qr (drounds 3 L) 0 4 8 12) 1 5 9 13) 2 6 10 14) 3 7 11 15) 0 5 10 15) 1 6 11 12) 2 7 8 13))) := Lib.hid (by rw [hU]; exact setRow_heap _ _ _ _ _ _ RY.out)
 replace RX : Hid (Blk U31 gx 77 (u32s L)) := Lib.hid (by rw [hU]; exact (setRow_other _ _ _ _ DY.out).trans RX.out)
 replace RZ : Hid (Blk U31 g6 53 _) := Lib.hid (by rw [hU]; exact (setRow_other _ _ _ _ D6.out).trans RZ.out)
 replace BW : Hid (Below gk w U31) := Lib.hid (by rw [hU]; exact below_setRow BW.out LY.out _)
 replace RW := RW'
 clear hU RW'
 clear V
 refine (rqL7 _ _ RW.out).mono ?_
 rintro e V ⟨rfl, hb⟩
 replace BW := Lib.hid (BW.out.trans (hb.mono (by have := RY.out.lt; have := LY.out; omega)))
 replace RY := Lib.hid (RY.out.below hb)
 replace RX := Lib.hid (RX.out.below hb)
 replace RZ := Lib.hid (RZ.out.below hb)
 clear hb
 have RW' := Lib.hid (qr_w16 RW.out 3 4 9 14 (by omega) (by omega) (by omega) (by omega))
 go_wp2_with (first | (refine wpList_store_row rfl 77 _ _ rfl gy _ rfl rfl 77 _ RY.out (i46 _ RW'.out) (s46 RW.out RW'.out) (u32s_one _) ?_) | (refine wpList_load_row rfl 77 _ rfl gy rfl 77 _ (0, 0) _ (setRow_heap _ _ _ _ _ _ RY.out) Tryd.underlying77 rfl (i46 _ RW'.out) ?_))
 obtain ⟨U32, hU⟩ : ∃ U, U = V.setRow gy (u32s (qr (qr (qr (qr (qr (qr (qr (qr (drounds 3 L) 0 4 8 12) 1 5 9 13) 2 6 10 14) 3 7 11 15) 0 5 10 15) 1 6 11 12) 2 7 8 13) 3 4 9 14)) := ⟨_, rfl⟩
 rw [← hU]
 replace RY : Hid (Blk U32 gy 77 (u32s (qr (qr (qr (qr (qr (qr (qr (qr (drounds 3 L) 0 4 8 12) 1 5 9 13) 2 6 10 14) 3 7 11 15) 0 5 10 15) 1 6 11 12) 2 7 8 13) 3 4 9 14))) := Lib.hid (by rw [hU]; exact setRow_heap _ _ _ _ _ _ RY.out)
 replace RX : Hid (Blk U32 gx 77 (u32s L)) := Lib.hid (by rw [hU]; exact (setRow_other _ _ _ _ DY.out).trans RX.out)
 replace RZ : Hid (Blk U32 g6 53 _) := Lib.hid (by rw [hU]; exact (setRow_other _ _ _ _ D6.out).trans RZ.out)
 replace BW : Hid (Below gk w U32) := Lib.hid (by rw [hU]; exact below_setRow BW.out LY.out _)
 replace RW := RW'
 clear hU RW'
 clear V
 replace RY : Hid (Blk U32 gy 77 (u32s (drounds 4 L))) := RY
 clear RW
 rw [rounds_succ]
 have RW : Hid (W16 (drounds 4 L)) := Lib.hid (drounds_w16 WF.out 4)
 go_wp2_with (refine wpList_load_row rfl 77 _ rfl gy rfl 77 _ (0, 0) _ RY.out Tryd.underlying77 rfl (i46 _ RW.out) ?_)
 refine (rqL0 _ _ RW.out).mono ?_
 rintro e V ⟨rfl, hb⟩
 replace BW := Lib.hid (BW.out.trans (hb.mono (by have := RY.out.lt; have := LY.out; omega)))
 replace RY := Lib.hid (RY.out.below hb)
 replace RX := Lib.hid (RX.out.below hb)
 replace RZ := Lib.hid (RZ.out.below hb)
 clear hb
 have RW' := Lib.hid (qr_w16 RW.out 0 4 8 12 (by omega) (by omega) (by omega) (by omega))
 go_wp2_with (first | (refine wpList_store_row rfl 77 _ _ rfl gy _ rfl rfl 77 _ RY.out (i46 _ RW'.out) (s46 RW.out RW'.out) (u32s_one _) ?_) | (refine wpList_load_row rfl 77 _ rfl gy rfl 77 _ (0, 0) _ (setRow_heap _ _ _ _ _ _ RY.out) Tryd.underlying77 rfl (i46 _ RW'.out) ?_))
 obtain ⟨U33, hU⟩ : ∃ U, U = V.setRow gy (u32s (qr (drounds 4 L) 0 4 8 12)) := ⟨_, rfl⟩
 rw [← hU]
 replace RY : Hid (Blk U33 gy 77 (u32s (qr (drounds 4 L) 0 4 8 12))) := Lib.hid (by rw [hU]; exact setRow_heap _ _ _ _ _ _ RY.out)
 replace RX : Hid (Blk U33 gx 77 (u32s L)) := Lib.hid (by rw [hU]; exact (setRow_other _ _ _ _ DY.out).trans RX.out)
 replace RZ : Hid (Blk U33 g6 53 _) := Lib.hid (by rw [hU]; exact (setRow_other _ _ _ _ D6.out).trans RZ.out)
 replace BW : Hid (Below gk w U33) := Lib.hid (by rw [hU]; exact below_setRow BW.out LY.out _)
 replace RW := RW'
 clear hU RW'
 clear V
 refine (rqL1 _ _ RW.out).mono ?_
 rintro e V ⟨rfl, hb⟩
 replace BW := Lib.hid (BW.out.trans (hb.mono (by have := RY.out.lt; have := LY.out; omega)))
 replace RY := Lib.hid (RY.out.below hb)
 replace RX := Lib.hid (RX.out.below hb)
 replace RZ := Lib.hid (RZ.out.below hb)
 clear hb
 have RW' := Lib.hid (qr_w16 RW.out 1 5 9 13 (by omega) (by omega) (by omega) (by omega))
 go_wp2_with (first | (refine wpList_store_row rfl 77 _ _ rfl gy _ rfl rfl 77 _ RY.out (i46 _ RW'.out) (s46 RW.out RW'.out) (u32s_one _) ?_) | (refine wpList_load_row rfl 77 _ rfl gy rfl 77 _ (0, 0) _ (setRow_heap _ _ _ _ _ _ RY.out) Tryd.underlying77 rfl (i46 _ RW'.out) ?_))
 obtain ⟨U34, hU⟩ : ∃ U, U = V.setRow gy (u32s (qr (qr (drounds 4 L) 0 4 8 12) 1 5 9 13)) := ⟨_, rfl⟩
 rw [← hU]
 replace RY : Hid (Blk U34 gy 77 (u32s (qr (qr (drounds 4 L) 0 4 8 12) 1 5 9 13))) := Lib.hid (by rw [hU]; exact setRow_heap _ _ _ _ _ _ RY.out)
 replace RX : Hid (Blk U34 gx 77 (u32s L)) := Lib.hid (by rw [hU]; exact (setRow_other _ _ _ _ DY.out).trans RX.out)
 replace RZ : Hid (Blk U34 g6 53 _) := Lib.hid (by rw [hU]; exact (setRow_other _ _ _ _ D6.out).trans RZ.out)
 replace BW : Hid (Below gk w U34) := Lib.hid (by rw [hU]; exact below_setRow BW.out LY.out _)
 replace RW := RW'
 clear hU RW'
 clear V
 refine (rqL2 _ _ RW.out).mono ?_
 rintro e V ⟨rfl, hb⟩
 replace BW := Lib.hid (BW.out.trans (hb.mono (by have := RY.out.lt; have := LY.out; omega)))
 replace RY := Lib.hid (RY.out.below hb)
 replace RX := Lib.hid (RX.out.below hb)
 replace RZ := Lib.hid (RZ.out.below hb)
 clear hb
 have RW' := Lib.hid (qr_w16 RW.out 2 6 10 14 (by omega) (by omega) (by omega) (by omega))
 go_wp2_with (first | (refine wpList_store_row rfl 77 _ _ rfl gy _ rfl rfl 77 _ RY.out (i46 _ RW'.out) (s46 RW.out RW'.out) (u32s_one _) ?_) | (refine wpList_load_row rfl 77 _ rfl gy rfl 77 _ (0, 0) _ (setRow_heap _ _ _ _ _ _ RY.out) Tryd.underlying77 rfl (i46 _ RW'.out) ?_))
 obtain ⟨U35, hU⟩ : ∃ U, U = V.setRow gy (u32s (qr (qr (qr (drounds 4 L) 0 4 8 12) 1 5 9 13) 2 6 10 14)) := ⟨_, rfl⟩
 rw [← hU]
 replace RY : Hid (Blk U35 gy 77 (u32s (qr (qr (qr (drounds 4 L) 0 4 8 12) 1 5 9 13) 2 6 10 14))) := Lib.hid (by rw [hU]; exact setRow_heap _ _ _ _ _ _ RY.out)
 replace RX : Hid (Blk U35 gx 77 (u32s L)) := Lib.hid (by rw [hU]; exact (setRow_other _ _ _ _ DY.out).trans RX.out)
 replace RZ : Hid (Blk U35 g6 53 _) := Lib.hid (by rw [hU]; exact (setRow_other _ _ _ _ D6.out).trans RZ.out)
 replace BW : Hid (Below gk w U35) := Lib.hid (by rw [hU]; exact below_setRow BW.out LY.out _)
 replace RW := RW'
 clear hU RW'
 clear V
 refine (rqL3 _ _ RW.out).mono ?_
 rintro e V ⟨rfl, hb⟩
 replace BW := Lib.hid (BW.out.trans (hb.mono (by have := RY.out.lt; have := LY.out; omega)))
 replace RY := Lib.hid (RY.out.below hb)
 replace RX := Lib.hid (RX.out.below hb)
 replace RZ := Lib.hid (RZ.out.below hb)
 clear hb
 have RW' := Lib.hid (qr_w16 RW.out 3 7 11 15 (by omega) (by omega) (by omega) (by omega))
 go_wp2_with (first | (refine wpList_store_row rfl 77 _ _ rfl gy _ rfl rfl 77 _ RY.out (i46 _ RW'.out) (s46 RW.out RW'.out) (u32s_one _) ?_) | (refine wpList_load_row rfl 77 _ rfl gy rfl 77 _ (0, 0) _ (setRow_heap _ _ _ _ _ _ RY.out) Tryd.underlying77 rfl (i46 _ RW'.out) ?_))
 obtain ⟨U36, hU⟩ : ∃ U, U = V.setRow gy (u32s (qr (qr (qr (qr (drounds 4 L) 0 4 8 12) 1 5 9 13) 2 6 10 14) 3 7 11 15)) := ⟨_, rfl⟩
 rw [← hU]
 replace RY : Hid (Blk U36 gy 77 (u32s (qr (qr (qr (qr (drounds 4 L) 0 4 8 12) 1 5 9 13) 2 6 10 14) 3 7 11 15))) := Lib.hid (by rw [hU]; exact setRow_heap _ _ _ _ _ _ RY.out)
 replace RX : Hid (Blk U36 gx 77 (u32s L)) := Lib.hid (by rw [hU]; exact (setRow_other _ _ _ _ DY.out).trans RX.out)
 replace RZ : Hid (Blk U36 g6 53 _) := Lib.hid (by rw [hU]; exact (setRow_other _ _ _ _ D6.out).trans RZ.out)
 replace BW : Hid (Below gk w U36) := Lib.hid (by rw [hU]; exact below_setRow BW.out LY.out _)
 replace RW := RW'
 clear hU RW'
 clear V
 refine (rqL4 _ _ RW.out).mono ?_
 rintro e V ⟨rfl, hb⟩
 replace BW := Lib.hid (BW.out.trans (hb.mono (by have := RY.out.lt; have := LY.out; omega)))
 replace RY := Lib.hid (RY.out.below hb)
 replace RX := Lib.hid (RX.out.below hb)
 replace RZ := Lib.hid (RZ.out.below hb)
 clear hb
 have RW' := Lib.hid (qr_w16 RW.out 0 5 10 15 (by omega) (by omega) (by omega) (by omega))
 go_wp2_with (first | (refine wpList_store_row rfl 77 _ _ rfl gy _ rfl rfl 77 _ RY.out (i46 _ RW'.out) (s46 RW.out RW'.out) (u32s_one _) ?_) | (refine wpList_load_row rfl 77 _ rfl gy rfl 77 _ (0, 0) _ (setRow_heap _ _ _ _ _ _ RY.out) Tryd.underlying77 rfl (i46 _ RW'.out) ?_))
 obtain ⟨U37, hU⟩ : ∃ U, U = V.setRow gy (u32s (qr (qr (qr (qr (qr (drounds 4 L) 0 4 8 12) 1 5 9 13) 2 6 10 14) 3 7 11 15) 0 5 10 15)) := ⟨_, rfl⟩
 rw [← hU]
 replace RY : Hid (Blk U37 gy 77 (u32s (qr (qr (qr (qr (qr (drounds 4 L) 0 4 8 12) 1 5 9 13) 2 6 10 14) 3 7 11 15) 0 5 10 15))) := Lib.hid (by rw [hU]; exact setRow_heap _ _ _ _ _ _ RY.out)
 replace RX : Hid (Blk U37 gx 77 (u32s L)) := Lib.hid (by rw [hU]; exact (setRow_other _ _ _ _ DY.out).trans RX.out)
 replace RZ : Hid (Blk U37 g6 53 _) := Lib.hid (by rw [hU]; exact (setRow_other _ _ _ _ D6.out).trans RZ.out)
 replace BW : Hid (Below gk w U37) := Lib.hid (by rw [hU]; exact below_setRow BW.out LY.out _)
 replace RW := RW'
 clear hU RW'
 clear V
 refine (rqL5 _ _ RW.out).mono ?_
 rintro e V ⟨rfl, hb⟩
 replace BW := Lib.hid (BW.out.trans (hb.mono (by have := RY.out.lt; have := LY.out; omega)))
 replace RY := Lib.hid (RY.out.below hb)
 replace RX := Lib.hid (RX.out.below hb)
 replace RZ := Lib.hid (RZ.out.below hb)
 clear hb
 have RW' := Lib.hid (qr_w16 RW.out 1 6 11 12 (by omega) (by omega) (by omega) (by omega))
 go_wp2_with (first | (refine wpList_store_row rfl 77 _ _ rfl gy _ rfl rfl 77 _ RY.out (i46 _ RW'.out) (s46 RW.out RW'.out) (u32s_one _) ?_) | (refine wpList_load_row rfl 77 _ rfl gy rfl 77 _ (0, 0) _ (setRow_heap _ _ _ _ _ _ RY.out) Tryd.underlying77 rfl (i46 _ RW'.out) ?_))
 obtain ⟨U38, hU⟩ : ∃ U, U = V.setRow gy (u32s (qr (qr (qr (qr (qr (qr (drounds 4 L) 0 4 8 12) 1 5 9 13) 2 6 10 14) 3 7 11 15) 0 5 10 15) 1 6 11 12)) := ⟨_, rfl⟩
 rw [← hU]
 replace RY : Hid (Blk U38 gy 77 (u32s (qr (qr (qr (qr (qr (qr (drounds 4 L) 0 4 8 12) 1 5 9 13) 2 6 10 14) 3 7 11 15) 0 5 10 15) 1 6 11 12))) := Lib.hid (by rw [hU]; exact setRow_heap _ _ _ _ _ _ RY.out)
 replace RX : Hid (Blk U38 gx 77 (u32s L)) := Lib.hid (by rw [hU]; exact (setRow_other _ _ _ _ DY.out).trans RX.out)
 replace RZ : Hid (Blk U38 g6 53 _) := Lib.hid (by rw [hU]; exact (setRow_other _ _ _ _ D6.out).trans RZ.out)
 replace BW : Hid (Below gk w U38) := Lib.hid (by rw [hU]; exact below_setRow BW.out LY.out _)
 replace RW := RW'
 clear hU RW'
 clear V
 refine (rqL6 _ _ RW.out).mono ?_
 rintro e V ⟨rfl, hb⟩
 replace BW := Lib.hid (BW.out.trans (hb.mono (by have := RY.out.lt; have := LY.out; omega)))
 replace RY := Lib.hid (RY.out.below hb)
 replace RX := Lib.hid (RX.out.below hb)
 replace RZ := Lib.hid (RZ.out.below hb)
 clear hb
 have RW' := Lib.hid (qr_w16 RW.out 2 7 8 13 (by omega) (by omega) (by omega) (by omega))
 go_wp2_with (first | (refine wpList_store_row rfl 77 _ _ rfl gy _ rfl rfl 77 _ RY.out (i46 _ RW'.out) (s46 RW.out RW'.out) (u32s_one _) ?_) | (refine wpList_load_row rfl 77 _ rfl gy rfl 77 _ (0, 0) _ (setRow_heap _ _ _ _ _ _ RY.out) Tryd.underlying77 rfl (i46 _ RW'.out) ?_))
 obtain ⟨U39, hU⟩ : ∃ U, U = V.setRow gy (u32s (qr (qr (qr (qr (qr (qr (qr (drounds 4 L) 0 4 8 12) 1 5 9 13) 2 6 10 14) 3 7 11 15) 0 5 10 15) 1 6 11 12) 2 7 8 13)) := ⟨_, rfl⟩
 rw [← hU]
 replace RY : Hid (Blk U39 gy 77 (u32s (qr (qr (qr (qr (qr (qr (qr (drounds 4 L) 0 4 8 12) 1 5 9 13) 2 6 10 14) 3 7 11 15) 0 5 10 15) 1 6 11 12) 2 7 8 13))) := Lib.hid (by rw [hU]; exact setRow_heap _ _ _ _ _ _ RY.out)
 replace RX : Hid (Blk U39 gx 77 (u32s L)) := Lib.hid (by rw [hU]; exact (setRow_other _ _ _ _ DY.out).trans RX.out)
 replace RZ : Hid (Blk U39 g6 53 _) := Lib.hid (by rw [hU]; exact (setRow_other _ _ _ _ D6.out).trans RZ.out)
 replace BW : Hid (Below gk w U39) := Lib.hid (by rw [hU]; exact below_setRow BW.out LY.out _)
 replace RW := RW'
 clear hU RW'
 clear V
 refine (rqL7 _ _ RW.out).mono ?_
 rintro e V ⟨rfl, hb⟩
 replace BW := Lib.hid (BW.out.trans (hb.mono (by have := RY.out.lt; have := LY.out; omega)))
 replace RY := Lib.hid (RY.out.below hb)
 replace RX := Lib.hid (RX.out.below hb)
 replace RZ := Lib.hid (RZ.out.below hb)
 clear hb
 have RW' := Lib.hid (qr_w16 RW.out 3 4 9 14 (by omega) (by omega) (by omega) (by omega))
 go_wp2_with (first | (refine wpList_store_row rfl 77 _ _ rfl gy _ rfl rfl 77 _ RY.out (i46 _ RW'.out) (s46 RW.out RW'.out) (u32s_one _) ?_) | (refine wpList_load_row rfl 77 _ rfl gy rfl 77 _ (0, 0) _ (setRow_heap _ _ _ _ _ _ RY.out) Tryd.underlying77 rfl (i46 _ RW'.out) ?_))
 obtain ⟨U40, hU⟩ : ∃ U, U = V.setRow gy (u32s (qr (qr (qr (qr (qr (qr (qr (qr (drounds 4 L) 0 4 8 12) 1 5 9 13) 2 6 10 14) 3 7 11 15) 0 5 10 15) 1 6 11 12) 2 7 8 13) 3 4 9 14)) := ⟨_, rfl⟩
 rw [← hU]
 replace RY : Hid (Blk U40 gy 77 (u32s (qr (qr (qr (qr (qr (qr (qr (qr (drounds 4 L) 0 4 8 12) 1 5 9 13) 2 6 10 14) 3 7 11 15) 0 5 10 15) 1 6 11 12) 2 7 8 13) 3 4 9 14))) := Lib.hid (by rw [hU]; exact setRow_heap _ _ _ _ _ _ RY.out)
 replace RX : Hid (Blk U40 gx 77 (u32s L)) := Lib.hid (by rw [hU]; exact (setRow_other _ _ _ _ DY.out).trans RX.out)
 replace RZ : Hid (Blk U40 g6 53 _) := Lib.hid (by rw [hU]; exact (setRow_other _ _ _ _ D6.out).trans RZ.out)
 replace BW : Hid (Below gk w U40) := Lib.hid (by rw [hU]; exact below_setRow BW.out LY.out _)
 replace RW := RW'
 clear hU RW'
 clear V
 replace RY : Hid (Blk U40 gy 77 (u32s (drounds 5 L))) := RY
 clear RW
 rw [rounds_succ]
 have RW : Hid (W16 (drounds 5 L)) := Lib.hid (drounds_w16 WF.out 5)
 go_wp2_with (refine wpList_load_row rfl 77 _ rfl gy rfl 77 _ (0, 0) _ RY.out Tryd.underlying77 rfl (i46 _ RW.out) ?_)
 refine (rqL0 _ _ RW.out).mono ?_
 rintro e V ⟨rfl, hb⟩
 replace BW := Lib.hid (BW.out.trans (hb.mono (by have := RY.out.lt; have := LY.out; omega)))
 replace RY := Lib.hid (RY.out.below hb)
 replace RX := Lib.hid (RX.out.below hb)
 replace RZ := Lib.hid (RZ.out.below hb)
 clear hb
 have RW' := Lib.hid (qr_w16 RW.out 0 4 8 12 (by omega) (by omega) (by omega) (by omega))
 go_wp2_with (first | (refine wpList_store_row rfl 77 _ _ rfl gy _ rfl rfl 77 _ RY.out (i46 _ RW'.out) (s46 RW.out RW'.out) (u32s_one _) ?_) | (refine wpList_load_row rfl 77 _ rfl gy rfl 77 _ (0, 0) _ (setRow_heap _ _ _ _ _ _ RY.out) Tryd.underlying77 rfl (i46 _ RW'.out) ?_))
 obtain ⟨U41, hU⟩ : ∃ U, U = V.setRow gy (u32s (qr (drounds 5 L) 0 4 8 12)) := ⟨_, rfl⟩
 rw [← hU]
 replace RY : Hid (Blk U41 gy 77 (u32s (qr (drounds 5 L) 0 4 8 12))) := Lib.hid (by rw [hU]; exact setRow_heap _ _ _ _ _ _ RY.out)
 replace RX : Hid (Blk U41 gx 77 (u32s L)) := Lib.hid (by rw [hU]; exact (setRow_other _ _ _ _ DY.out).trans RX.out)
 replace RZ : Hid (Blk U41 g6 53 _) := Lib.hid (by rw [hU]; exact (setRow_other _ _ _ _ D6.out).trans RZ.out)
 replace BW : Hid (Below gk w U41) := Lib.hid (by rw [hU]; exact below_setRow BW.out LY.out _)
 replace RW := RW'
 clear hU RW'
 clear V
 refine (rqL1 _ _ RW.out).mono ?_
 rintro e V ⟨rfl, hb⟩
 replace BW := Lib.hid (BW.out.trans (hb.mono (by have := RY.out.lt; have := LY.out; omega)))
 replace RY := Lib.hid (RY.out.below hb)
 replace RX := Lib.hid (RX.out.below hb)
 replace RZ := Lib.hid (RZ.out.below hb)
 clear hb
 have RW' := Lib.hid (qr_w16 RW.out 1 5 9 13 (by omega) (by omega) (by omega) (by omega))
 go_wp2_with (first | (refine wpList_store_row rfl 77 _ _ rfl gy _ rfl rfl 77 _ RY.out (i46 _ RW'.out) (s46 RW.out RW'.out) (u32s_one _) ?_) | (refine wpList_load_row rfl 77 _ rfl gy rfl 77 _ (0, 0) _ (setRow_heap _ _ _ _ _ _ RY.out) Tryd.underlying77 rfl (i46 _ RW'.out) ?_))
 obtain ⟨U42, hU⟩ : ∃ U, U = V.setRow gy (u32s (qr (qr (drounds 5 L) 0 4 8 12) 1 5 9 13)) := ⟨_, rfl⟩
 rw [← hU]
 replace RY : Hid (Blk U42 gy 77 (u32s (qr (qr (drounds 5 L) 0 4 8 12) 1 5 9 13))) := Lib.hid (by rw [hU]; exact setRow_heap _ _ _ _ _ _ RY.out)
 replace RX : Hid (Blk U42 gx 77 (u32s L)) := Lib.hid (by rw [hU]; exact (setRow_other _ _ _ _ DY.out).trans RX.out)
 replace RZ : Hid (Blk U42 g6 53 _) := Lib.hid (by rw [hU]; exact (setRow_other _ _ _ _ D6.out).trans RZ.out)
 replace BW : Hid (Below gk w U42) := Lib.hid (by rw [hU]; exact below_setRow BW.out LY.out _)
 replace RW := RW'
 clear hU RW'
 clear V
 refine (rqL2 _ _ RW.out).mono ?_
 rintro e V ⟨rfl, hb⟩
 replace BW := Lib.hid (BW.out.trans (hb.mono (by have := RY.out.lt; have := LY.out; omega)))
 replace RY := Lib.hid (RY.out.below hb)
 replace RX := Lib.hid (RX.out.below hb)
 replace RZ := Lib.hid (RZ.out.below hb)
 clear hb
 have RW' := Lib.hid (qr_w16 RW.out 2 6 10 14 (by omega) (by omega) (by omega) (by omega))
 go_wp2_with (first | (refine wpList_store_row rfl 77 _ _ rfl gy _ rfl rfl 77 _ RY.out (i46 _ RW'.out) (s46 RW.out RW'.out) (u32s_one _) ?_) | (refine wpList_load_row rfl 77 _ rfl gy rfl 77 _ (0, 0) _ (setRow_heap _ _ _ _ _ _ RY.out) Tryd.underlying77 rfl (i46 _ RW'.out) ?_))
 obtain ⟨U43, hU⟩ : ∃ U, U = V.setRow gy (u32s (qr (qr (qr (drounds 5 L) 0 4 8 12) 1 5 9 13) 2 6 10 14)) := ⟨_, rfl⟩
 rw [← hU]
 replace RY : Hid (Blk U43 gy 77 (u32s (qr (qr (qr (drounds 5 L) 0 4 8 12) 1 5 9 13) 2 6 10 14))) := Lib.hid (by rw [hU]; exact setRow_heap _ _ _ _ _ _ RY.out)
 replace RX : Hid (Blk U43 gx 77 (u32s L)) := Lib.hid (by rw [hU]; exact (setRow_other _ _ _ _ DY.out).trans RX.out)
 replace RZ : Hid (Blk U43 g6 53 _) := Lib.hid (by rw [hU]; exact (setRow_other _ _ _ _ D6.out).trans RZ.out)
 replace BW : Hid (Below gk w U43) := Lib.hid (by rw [hU]; exact below_setRow BW.out LY.out _)
 replace RW := RW'
 clear hU RW'
 clear V
 refine (rqL3 _ _ RW.out).mono ?_
 rintro e V ⟨rfl, hb⟩
 replace BW := Lib.hid (BW.out.trans (hb.mono (by have := RY.out.lt; have := LY.out; omega)))
 replace RY := Lib.hid (RY.out.below hb)
 replace RX := Lib.hid (RX.out.below hb)
 replace RZ := Lib.hid (RZ.out.below hb)
 clear hb
 have RW' := Lib.hid (qr_w16 RW.out 3 7 11 15 (by omega) (by omega) (by omega) (by omega))
 go_wp2_with (first | (refine wpList_store_row rfl 77 _ _ rfl gy _ rfl rfl 77 _ RY.out (i46 _ RW'.out) (s46 RW.out RW'.out) (u32s_one _) ?_) | (refine wpList_load_row rfl 77 _ rfl gy rfl 77 _ (0, 0) _ (setRow_heap _ _ _ _ _ _ RY.out) Tryd.underlying77 rfl (i46 _ RW'.out) ?_))
 obtain ⟨U44, hU⟩ : ∃ U, U = V.setRow gy (u32s (qr (qr (qr (qr (drounds 5 L) 0 4 8 12) 1 5 9 13) 2 6 10 14) 3 7 11 15)) := ⟨_, rfl⟩
 rw [← hU]
 replace RY : Hid (Blk U44 gy 77 (u32s (qr (qr (qr (qr (drounds 5 L) 0 4 8 12) 1 5 9 13) 2 6 10 14) 3 7 11 15))) := Lib.hid (by rw [hU]; exact setRow_heap _ _ _ _ _ _ RY.out)
 replace RX : Hid (Blk U44 gx 77 (u32s L)) := Lib.hid (by rw [hU]; exact (setRow_other _ _ _ _ DY.out).trans RX.out)
 replace RZ : Hid (Blk U44 g6 53 _) := Lib.hid (by rw [hU]; exact (setRow_other _ _ _ _ D6.out).trans RZ.out)
 replace BW : Hid (Below gk w U44) := Lib.hid (by rw [hU]; exact below_setRow BW.out LY.out _)
 replace RW := RW'
 clear hU RW'
 clear V
 refine (rqL4 _ _ RW.out).mono ?_
 rintro e V ⟨rfl, hb⟩
 replace BW := Lib.hid (BW.out.trans (hb.mono (by have := RY.out.lt; have := LY.out; omega)))
 replace RY := Lib.hid (RY.out.below hb)
 replace RX := Lib.hid (RX.out.below hb)
 replace RZ := Lib.hid (RZ.out.below hb)
 clear hb
 have RW' := Lib.hid (qr_w16 RW.out 0 5 10 15 (by omega) (by omega) (by omega) (by omega))
 go_wp2_with (first | (refine wpList_store_row rfl 77 _ _ rfl gy _ rfl rfl 77 _ RY.out (i46 _ RW'.out) (s46 RW.out RW'.out) (u32s_one _) ?_) | (refine wpList_load_row rfl 77 _ rfl gy rfl 77 _ (0, 0) _ (setRow_heap _ _ _ _ _ _ RY.out) Tryd.underlying77 rfl (i46 _ RW'.out) ?_))
 obtain ⟨U45, hU⟩ : ∃ U, U = V.setRow gy (u32s (qr (qr (qr (qr (qr (drounds 5 L) 0 4 8 12) 1 5 9 13) 2 6 10 14) 3 7 11 15) 0 5 10 15)) := ⟨_, rfl⟩
 rw [← hU]
 replace RY : Hid (Blk U45 gy 77 (u32s (qr (qr (qr (qr (qr (drounds 5 L) 0 4 8 12) 1 5 9 13) 2 6 10 14) 3 7 11 15) 0 5 10 15))) := Lib.hid (by rw [hU]; exact setRow_heap _ _ _ _ _ _ RY.out)
 replace RX : Hid (Blk U45 gx 77 (u32s L)) := Lib.hid (by rw [hU]; exact (setRow_other _ _ _ _ DY.out).trans RX.out)
 replace RZ : Hid (Blk U45 g6 53 _) := Lib.hid (by rw [hU]; exact (setRow_other _ _ _ _ D6.out).trans RZ.out)
 replace BW : Hid (Below gk w U45) := Lib.hid (by rw [hU]; exact below_setRow BW.out LY.out _)
 replace RW := RW'
 clear hU RW'
 clear V
 refine (rqL5 _ _ RW.out).mono ?_
 rintro e V ⟨rfl, hb⟩
 replace BW := Lib.hid (BW.out.trans (hb.mono (by have := RY.out.lt; have := LY.out; omega)))
 replace RY := Lib.hid (RY.out.below hb)
 replace RX := Lib.hid (RX.out.below hb)
 replace RZ := Lib.hid (RZ.out.below hb)
 clear hb
 have RW' := Lib.hid (qr_w16 RW.out 1 6 11 12 (by omega) (by omega) (by omega) (by omega))
 go_wp2_with (first | (refine wpList_store_row rfl 77 _ _ rfl gy _ rfl rfl 77 _ RY.out (i46 _ RW'.out) (s46 RW.out RW'.out) (u32s_one _) ?_) | (refine wpList_load_row rfl 77 _ rfl gy rfl 77 _ (0, 0) _ (setRow_heap _ _ _ _ _ _ RY.out) Tryd.underlying77 rfl (i46 _ RW'.out) ?_))
 obtain ⟨U46, hU⟩ : ∃ U, U = V.setRow gy (u32s (qr (qr (qr (qr (qr (qr (drounds 5 L) 0 4 8 12) 1 5 9 13) 2 6 10 14) 3 7 11 15) 0 5 10 15) 1 6 11 12)) := ⟨_, rfl⟩
 rw [← hU]
 replace RY : Hid (Blk U46 gy 77 (u32s (qr (qr (qr (qr (qr (qr (drounds 5 L) 0 4 8 12) 1 5 9 13) 2 6 10 14) 3 7 11 15) 0 5 10 15) 1 6 11 12))) := Lib.hid (by rw [hU]; exact setRow_heap _ _ _ _ _ _ RY.out)
 replace RX : Hid (Blk U46 gx 77 (u32s L)) := Lib.hid (by rw [hU]; exact (setRow_other _ _ _ _ DY.out).trans RX.out)
 replace RZ : Hid (Blk U46 g6 53 _) := Lib.hid (by rw [hU]; exact (setRow_other _ _ _ _ D6.out).trans RZ.out)
 replace BW : Hid (Below gk w U46) := Lib.hid (by rw [hU]; exact below_setRow BW.out LY.out _)
 replace RW := RW'
 clear hU RW'
 clear V
 refine (rqL6 _ _ RW.out).mono ?_
 rintro e V ⟨rfl, hb⟩
 replace BW := Lib.hid (BW.out.trans (hb.mono (by have := RY.out.lt; have := LY.out; omega)))
 replace RY := Lib.hid (RY.out.below hb)
 replace RX := Lib.hid (RX.out.below hb)
 replace RZ := Lib.hid (RZ.out.below hb)
 clear hb
 have RW' := Lib.hid (qr_w16 RW.out 2 7 8 13 (by omega) (by omega) (by omega) (by omega))
 go_wp2_with (first | (refine wpList_store_row rfl 77 _ _ rfl gy _ rfl rfl 77 _ RY.out (i46 _ RW'.out) (s46 RW.out RW'.out) (u32s_one _) ?_) | (refine wpList_load_row rfl 77 _ rfl gy rfl 77 _ (0, 0) _ (setRow_heap _ _ _ _ _ _ RY.out) Tryd.underlying77 rfl (i46 _ RW'.out) ?_))
 obtain ⟨U47, hU⟩ : ∃ U, U = V.setRow gy (u32s (qr (qr (qr (qr (qr (qr (qr (drounds 5 L) 0 4 8 12) 1 5 9 13) 2 6 10 14) 3 7 11 15) 0 5 10 15) 1 6 11 12) 2 7 8 13)) := ⟨_, rfl⟩
 rw [← hU]
 replace RY : Hid (Blk U47 gy 77 (u32s (qr (qr (qr (qr (qr (qr (qr (drounds 5 L) 0 4 8 12) 1 5 9 13) 2 6 10 14) 3 7 11 15) 0 5 10 15) 1 6 11 12) 2 7 8 13))) := Lib.hid (by rw [hU]; exact setRow_heap _ _ _ _ _ _ RY.out)
 replace RX : Hid (Blk U47 gx 77 (u32s L)) := Lib.hid (by rw [hU]; exact (setRow_other _ _ _ _ DY.out).trans RX.out)
 replace RZ : Hid (Blk U47 g6 53 _) := Lib.hid (by rw [hU]; exact (setRow_other _ _ _ _ D6.out).trans RZ.out)
 replace BW : Hid (Below gk w U47) := Lib.hid (by rw [hU]; exact below_setRow BW.out LY.out _)
 replace RW := RW'
 clear hU RW'
 clear V
 refine (rqL7 _ _ RW.out).mono ?_
 rintro e V ⟨rfl, hb⟩
 replace BW := Lib.hid (BW.out.trans (hb.mono (by have := RY.out.lt; have := LY.out; omega)))
 replace RY := Lib.hid (RY.out.below hb)
 replace RX := Lib.hid (RX.out.below hb)
 replace RZ := Lib.hid (RZ.out.below hb)
 clear hb
 have RW' := Lib.hid (qr_w16 RW.out 3 4 9 14 (by omega) (by omega) (by omega) (by omega))
 go_wp2_with (first | (refine wpList_store_row rfl 77 _ _ rfl gy _ rfl rfl 77 _ RY.out (i46 _ RW'.out) (s46 RW.out RW'.out) (u32s_one _) ?_) | (refine wpList_load_row rfl 77 _ rfl gy rfl 77 _ (0, 0) _ (setRow_heap _ _ _ _ _ _ RY.out) Tryd.underlying77 rfl (i46 _ RW'.out) ?_))
 obtain ⟨U48, hU⟩ : ∃ U, U = V.setRow gy (u32s (qr (qr (qr (qr (qr (qr (qr (qr (drounds 5 L) 0 4 8 12) 1 5 9 13) 2 6 10 14) 3 7 11 15) 0 5 10 15) 1 6 11 12) 2 7 8 13) 3 4 9 14)) := ⟨_, rfl⟩
 rw [← hU]
 replace RY : Hid (Blk U48 gy 77 (u32s (qr (qr (qr (qr (qr (qr (qr (qr (drounds 5 L) 0 4 8 12) 1 5 9 13) 2 6 10 14) 3 7 11 15) 0 5 10 15) 1 6 11 12) 2 7 8 13) 3 4 9 14))) := Lib.hid (by rw [hU]; exact setRow_heap _ _ _ _ _ _ RY.out)
 replace RX : Hid (Blk U48 gx 77 (u32s L)) := Lib.hid (by rw [hU]; exact (setRow_other _ _ _ _ DY.out).trans RX.out)
 replace RZ : Hid (Blk U48 g6 53 _) := Lib.hid (by rw [hU]; exact (setRow_other _ _ _ _ D6.out).trans RZ.out)
 replace BW : Hid (Below gk w U48) := Lib.hid (by rw [hU]; exact below_setRow BW.out LY.out _)
 replace RW := RW'
 clear hU RW'
 clear V
 replace RY : Hid (Blk U48 gy 77 (u32s (drounds 6 L))) := RY
 clear RW
 rw [rounds_succ]
 have RW : Hid (W16 (drounds 6 L)) := Lib.hid (drounds_w16 WF.out 6)
 go_wp2_with (refine wpList_load_row rfl 77 _ rfl gy rfl 77 _ (0, 0) _ RY.out Tryd.underlying77 rfl (i46 _ RW.out) ?_)
 refine (rqL0 _ _ RW.out).mono ?_
 rintro e V ⟨rfl, hb⟩
 replace BW := Lib.hid (BW.out.trans (hb.mono (by have := RY.out.lt; have := LY.out; omega)))
 replace RY := Lib.hid (RY.out.below hb)
 replace RX := Lib.hid (RX.out.below hb)
 replace RZ := Lib.hid (RZ.out.below hb)
 clear hb
 have RW' := Lib.hid (qr_w16 RW.out 0 4 8 12 (by omega) (by omega) (by omega) (by omega))
 go_wp2_with (first | (refine wpList_store_row rfl 77 _ _ rfl gy _ rfl rfl 77 _ RY.out (i46 _ RW'.out) (s46 RW.out RW'.out) (u32s_one _) ?_) | (refine wpList_load_row rfl 77 _ rfl gy rfl 77 _ (0, 0) _ (setRow_heap _ _ _ _ _ _ RY.out) Tryd.underlying77 rfl (i46 _ RW'.out) ?_))
 obtain ⟨U49, hU⟩ : ∃ U, U = V.setRow gy (u32s (qr (drounds 6 L) 0 4 8 12)) := ⟨_, rfl⟩
 rw [← hU]
 replace RY : Hid (Blk U49 gy 77 (u32s (qr (drounds 6 L) 0 4 8 12))) := Lib.hid (by rw [hU]; exact setRow_heap _ _ _ _ _ _ RY.out)
 replace RX : Hid (Blk U49 gx 77 (u32s L)) := Lib.hid (by rw [hU]; exact (setRow_other _ _ _ _ DY.out).trans RX.out)
 replace RZ : Hid (Blk U49 g6 53 _) := Lib.hid (by rw [hU]; exact (setRow_other _ _ _ _ D6.out).trans RZ.out)
 replace BW : Hid (Below gk w U49) := Lib.hid (by rw [hU]; exact below_setRow BW.out LY.out _)
 replace RW := RW'
 clear hU RW'
 clear V
 refine (rqL1 _ _ RW.out).mono ?_
 rintro e V ⟨rfl, hb⟩
 replace BW := Lib.hid (BW.out.trans (hb.mono (by have := RY.out.lt; have := LY.out; omega)))
 replace RY := Lib.hid (RY.out.below hb)
 replace RX := Lib.hid (RX.out.below hb)
 replace RZ := Lib.hid (RZ.out.below hb)
 clear hb
 have RW' := Lib.hid (qr_w16 RW.out 1 5 9 13 (by omega) (by omega) (by omega) (by omega))
 go_wp2_with (first | (refine wpList_store_row rfl 77 _ _ rfl gy _ rfl rfl 77 _ RY.out (i46 _ RW'.out) (s46 RW.out RW'.out) (u32s_one _) ?_) | (refine wpList_load_row rfl 77 _ rfl gy rfl 77 _ (0, 0) _ (setRow_heap _ _ _ _ _ _ RY.out) Tryd.underlying77 rfl (i46 _ RW'.out) ?_))
 obtain ⟨U50, hU⟩ : ∃ U, U = V.setRow gy (u32s (qr (qr (drounds 6 L) 0 4 8 12) 1 5 9 13)) := ⟨_, rfl⟩
 rw [← hU]
 replace RY : Hid (Blk U50 gy 77 (u32s (qr (qr (drounds 6 L) 0 4 8 12) 1 5 9 13))) := Lib.hid (by rw [hU]; exact setRow_heap _ _ _ _ _ _ RY.out)
 replace RX : Hid (Blk U50 gx 77 (u32s L)) := Lib.hid (by rw [hU]; exact (setRow_other _ _ _ _ DY.out).trans RX.out)
 replace RZ : Hid (Blk U50 g6 53 _) := Lib.hid (by rw [hU]; exact (setRow_other _ _ _ _ D6.out).trans RZ.out)
 replace BW : Hid (Below gk w U50) := Lib.hid (by rw [hU]; exact below_setRow BW.out LY.out _)
 replace RW := RW'
 clear hU RW'
 clear V
 refine (rqL2 _ _ RW.out).mono ?_
 rintro e V ⟨rfl, hb⟩
 replace BW := Lib.hid (BW.out.trans (hb.mono (by have := RY.out.lt; have := LY.out; omega)))
 replace RY := Lib.hid (RY.out.below hb)
 replace RX := Lib.hid (RX.out.below hb)
 replace RZ := Lib.hid (RZ.out.below hb)
 clear hb
 have RW' := Lib.hid (qr_w16 RW.out 2 6 10 14 (by omega) (by omega) (by omega) (by omega))
 go_wp2_with (first | (refine wpList_store_row rfl 77 _ _ rfl gy _ rfl rfl 77 _ RY.out (i46 _ RW'.out) (s46 RW.out RW'.out) (u32s_one _) ?_) | (refine wpList_load_row rfl 77 _ rfl gy rfl 77 _ (0, 0) _ (setRow_heap _ _ _ _ _ _ RY.out) Tryd.underlying77 rfl (i46 _ RW'.out) ?_))
 obtain ⟨U51, hU⟩ : ∃ U, U = V.setRow gy (u32s (qr (qr (qr (drounds 6 L) 0 4 8 12) 1 5 9 13) 2 6 10 14)) := ⟨_, rfl⟩
 rw [← hU]
 replace RY : Hid (Blk U51 gy 77 (u32s (qr (qr (qr (drounds 6 L) 0 4 8 12) 1 5 9 13) 2 6 10 14))) := Lib.hid (by rw [hU]; exact setRow_heap _ _ _ _ _ _ RY.out)
 replace RX : Hid (Blk U51 gx 77 (u32s L)) := Lib.hid (by rw [hU]; exact (setRow_other _ _ _ _ DY.out).trans RX.out)
 replace RZ : Hid (Blk U51 g6 53 _) := Lib.hid (by rw [hU]; exact (setRow_other _ _ _ _ D6.out).trans RZ.out)
 replace BW : Hid (Below gk w U51) := Lib.hid (by rw [hU]; exact below_setRow BW.out LY.out _)
 replace RW := RW'
 clear hU RW'
 clear V
 refine (rqL3 _ _ RW.out).mono ?_
 rintro e V ⟨rfl, hb⟩
 replace BW := Lib.hid (BW.out.trans (hb.mono (by have := RY.out.lt; have := LY.out; omega)))
 replace RY := Lib.hid (RY.out.below hb)
 replace RX := Lib.hid (RX.out.below hb)
 replace RZ := Lib.hid (RZ.out.below hb)
 clear hb
 have RW' := Lib.hid (qr_w16 RW.out 3 7 11 15 (by omega) (by omega) (by omega) (by omega))
 go_wp2_with (first | (refine wpList_store_row rfl 77 _ _ rfl gy _ rfl rfl 77 _ RY.out (i46 _ RW'.out) (s46 RW.out RW'.out) (u32s_one _) ?_) | (refine wpList_load_row rfl 77 _ rfl gy rfl 77 _ (0, 0) _ (setRow_heap _ _ _ _ _ _ RY.out) Tryd.underlying77 rfl (i46 _ RW'.out) ?_))
 obtain ⟨U52, hU⟩ : ∃ U, U = V.setRow gy (u32s (qr (qr (qr (qr (drounds 6 L) 0 4 8 12) 1 5 9 13) 2 6 10 14) 3 7 11 15)) := ⟨_, rfl⟩
 rw [← hU]
 replace RY : Hid (Blk U52 gy 77 (u32s (qr (qr (qr (qr (drounds 6 L) 0 4 8 12) 1 5 9 13) 2 6 10 14) 3 7 11 15))) := Lib.hid (by rw [hU]; exact setRow_heap _ _ _ _ _ _ RY.out)
 replace RX : Hid (Blk U52 gx 77 (u32s L)) := Lib.hid (by rw [hU]; exact (setRow_other _ _ _ _ DY.out).trans RX.out)
 replace RZ : Hid (Blk U52 g6 53 _) := Lib.hid (by rw [hU]; exact (setRow_other _ _ _ _ D6.out).trans RZ.out)
 replace BW : Hid (Below gk w U52) := Lib.hid (by rw [hU]; exact below_setRow BW.out LY.out _)
 replace RW := RW'
 clear hU RW'
 clear V
 refine (rqL4 _ _ RW.out).mono ?_
 rintro e V ⟨rfl, hb⟩
 replace BW := Lib.hid (BW.out.trans (hb.mono (by have := RY.out.lt; have := LY.out; omega)))
 replace RY := Lib.hid (RY.out.below hb)
 replace RX := Lib.hid (RX.out.below hb)
 replace RZ := Lib.hid (RZ.out.below hb)
 clear hb
 have RW' := Lib.hid (qr_w16 RW.out 0 5 10 15 (by omega) (by omega) (by omega) (by omega))
 go_wp2_with (first | (refine wpList_store_row rfl 77 _ _ rfl gy _ rfl rfl 77 _ RY.out (i46 _ RW'.out) (s46 RW.out RW'.out) (u32s_one _) ?_) | (refine wpList_load_row rfl 77 _ rfl gy rfl 77 _ (0, 0) _ (setRow_heap _ _ _ _ _ _ RY.out) Tryd.underlying77 rfl (i46 _ RW'.out) ?_))
 obtain ⟨U53, hU⟩ : ∃ U, U = V.setRow gy (u32s (qr (qr (qr (qr (qr (drounds 6 L) 0 4 8 12) 1 5 9 13) 2 6 10 14) 3 7 11 15) 0 5 10 15)) := ⟨_, rfl⟩
 rw [← hU]
 replace RY : Hid (Blk U53 gy 77 (u32s (qr (qr (qr (qr (qr (drounds 6 L) 0 4 8 12) 1 5 9 13) 2 6 10 14) 3 7 11 15) 0 5 10 15))) := Lib.hid (by rw [hU]; exact setRow_heap _ _ _ _ _ _ RY.out)
 replace RX : Hid (Blk U53 gx 77 (u32s L)) := Lib.hid (by rw [hU]; exact (setRow_other _ _ _ _ DY.out).trans RX.out)
 replace RZ : Hid (Blk U53 g6 53 _) := Lib.hid (by rw [hU]; exact (setRow_other _ _ _ _ D6.out).trans RZ.out)
 replace BW : Hid (Below gk w U53) := Lib.hid (by rw [hU]; exact below_setRow BW.out LY.out _)
 replace RW := RW'
 clear hU RW'
 clear V
 refine (rqL5 _ _ RW.out).mono ?_
 rintro e V ⟨rfl, hb⟩
 replace BW := Lib.hid (BW.out.trans (hb.mono (by have := RY.out.lt; have := LY.out; omega)))
 replace RY := Lib.hid (RY.out.below hb)
 replace RX := Lib.hid (RX.out.below hb)
 replace RZ := Lib.hid (RZ.out.below hb)
 clear hb
 have RW' := Lib.hid (qr_w16 RW.out 1 6 11 12 (by omega) (by omega) (by omega) (by omega))
 go_wp2_with (first | (refine wpList_store_row rfl 77 _ _ rfl gy _ rfl rfl 77 _ RY.out (i46 _ RW'.out) (s46 RW.out RW'.out) (u32s_one _) ?_) | (refine wpList_load_row rfl 77 _ rfl gy rfl 77 _ (0, 0) _ (setRow_heap _ _ _ _ _ _ RY.out) Tryd.underlying77 rfl (i46 _ RW'.out) ?_))
 obtain ⟨U54, hU⟩ : ∃ U, U = V.setRow gy (u32s (qr (qr (qr (qr (qr (qr (drounds 6 L) 0 4 8 12) 1 5 9 13) 2 6 10 14) 3 7 11 15) 0 5 10 15) 1 6 11 12)) := ⟨_, rfl⟩
 rw [← hU]
 replace RY : Hid (Blk U54 gy 77 (u32s (qr (qr (qr (qr (qr (qr (drounds 6 L) 0 4 8 12) 1 5 9 13) 2 6 10 14) 3 7 11 15) 0 5 10 15) 1 6 11 12))) := Lib.hid (by rw [hU]; exact setRow_heap _ _ _ _ _ _ RY.out)
 replace RX : Hid (Blk U54 gx 77 (u32s L)) := Lib.hid (by rw [hU]; exact (setRow_other _ _ _ _ DY.out).trans RX.out)
 replace RZ : Hid (Blk U54 g6 53 _) := Lib.hid (by rw [hU]; exact (setRow_other _ _ _ _ D6.out).trans RZ.out)
 replace BW : Hid (Below gk w U54) := Lib.hid (by rw [hU]; exact below_setRow BW.out LY.out _)
 replace RW := RW'
 clear hU RW'
 clear V
 refine (rqL6 _ _ RW.out).mono ?_
 rintro e V ⟨rfl, hb⟩
 replace BW := Lib.hid (BW.out.trans (hb.mono (by have := RY.out.lt; have := LY.out; omega)))
 replace RY := Lib.hid (RY.out.below hb)
 replace RX := Lib.hid (RX.out.below hb)
 replace RZ := Lib.hid (RZ.out.below hb)
 clear hb
 have RW' := Lib.hid (qr_w16 RW.out 2 7 8 13 (by omega) (by omega) (by omega) (by omega))
 go_wp2_with (first | (refine wpList_store_row rfl 77 _ _ rfl gy _ rfl rfl 77 _ RY.out (i46 _ RW'.out) (s46 RW.out RW'.out) (u32s_one _) ?_) | (refine wpList_load_row rfl 77 _ rfl gy rfl 77 _ (0, 0) _ (setRow_heap _ _ _ _ _ _ RY.out) Tryd.underlying77 rfl (i46 _ RW'.out) ?_))
 obtain ⟨U55, hU⟩ : ∃ U, U = V.setRow gy (u32s (qr (qr (qr (qr (qr (qr (qr (drounds 6 L) 0 4 8 12) 1 5 9 13) 2 6 10 14) 3 7 11 15) 0 5 10 15) 1 6 11 12) 2 7 8 13)) := ⟨_, rfl⟩
 rw [← hU]
 replace RY : Hid (Blk U55 gy 77 (u32s (qr (qr (qr (qr (qr (qr (qr (drounds 6 L) 0 4 8 12) 1 5 9 13) 2 6 10 14) 3 7 11 15) 0 5 10 15) 1 6 11 12) 2 7 8 13))) := Lib.hid (by rw [hU]; exact setRow_heap _ _ _ _ _ _ RY.out)
 replace RX : Hid (Blk U55 gx 77 (u32s L)) := Lib.hid (by rw [hU]; exact (setRow_other _ _ _ _ DY.out).trans RX.out)
 replace RZ : Hid (Blk U55 g6 53 _) := Lib.hid (by rw [hU]; exact (setRow_other _ _ _ _ D6.out).trans RZ.out)
 replace BW : Hid (Below gk w U55) := Lib.hid (by rw [hU]; exact below_setRow BW.out LY.out _)
 replace RW := RW'
 clear hU RW'
 clear V
 refine (rqL7 _ _ RW.out).mono ?_
 rintro e V ⟨rfl, hb⟩
 replace BW := Lib.hid (BW.out.trans (hb.mono (by have := RY.out.lt; have := LY.out; omega)))
 replace RY := Lib.hid (RY.out.below hb)
 replace RX := Lib.hid (RX.out.below hb)
 replace RZ := Lib.hid (RZ.out.below hb)
 clear hb
 have RW' := Lib.hid (qr_w16 RW.out 3 4 9 14 (by omega) (by omega) (by omega) (by omega))
 go_wp2_with (first | (refine wpList_store_row rfl 77 _ _ rfl gy _ rfl rfl 77 _ RY.out (i46 _ RW'.out) (s46 RW.out RW'.out) (u32s_one _) ?_) | (refine wpList_load_row rfl 77 _ rfl gy rfl 77 _ (0, 0) _ (setRow_heap _ _ _ _ _ _ RY.out) Tryd.underlying77 rfl (i46 _ RW'.out) ?_))
 obtain ⟨U56, hU⟩ : ∃ U, U = V.setRow gy (u32s (qr (qr (qr (qr (qr (qr (qr (qr (drounds 6 L) 0 4 8 12) 1 5 9 13) 2 6 10 14) 3 7 11 15) 0 5 10 15) 1 6 11 12) 2 7 8 13) 3 4 9 14)) := ⟨_, rfl⟩
 rw [← hU]
 replace RY : Hid (Blk U56 gy 77 (u32s (qr (qr (qr (qr (qr (qr (qr (qr (drounds 6 L) 0 4 8 12) 1 5 9 13) 2 6 10 14) 3 7 11 15) 0 5 10 15) 1 6 11 12) 2 7 8 13) 3 4 9 14))) := Lib.hid (by rw [hU]; exact setRow_heap _ _ _ _ _ _ RY.out)
 replace RX : Hid (Blk U56 gx 77 (u32s L)) := Lib.hid (by rw [hU]; exact (setRow_other _ _ _ _ DY.out).trans RX.out)
 replace RZ : Hid (Blk U56 g6 53 _) := Lib.hid (by rw [hU]; exact (setRow_other _ _ _ _ D6.out).trans RZ.out)
 replace BW : Hid (Below gk w U56) := Lib.hid (by rw [hU]; exact below_setRow BW.out LY.out _)
 replace RW := RW'
 clear hU RW'
 clear V
 replace RY : Hid (Blk U56 gy 77 (u32s (drounds 7 L))) := RY
 clear RW
 rw [rounds_succ]
 have RW : Hid (W16 (drounds 7 L)) := Lib.hid (drounds_w16 WF.out 7)
 go_wp2_with (refine wpList_load_row rfl 77 _ rfl gy rfl 77 _ (0, 0) _ RY.out Tryd.underlying77 rfl (i46 _ RW.out) ?_)
 refine (rqL0 _ _ RW.out).mono ?_
 rintro e V ⟨rfl, hb⟩
 replace BW := Lib.hid (BW.out.trans (hb.mono (by have := RY.out.lt; have := LY.out; omega)))
 replace RY := Lib.hid (RY.out.below hb)
 replace RX := Lib.hid (RX.out.below hb)
 replace RZ := Lib.hid (RZ.out.below hb)
 clear hb
 have RW' := Lib.hid (qr_w16 RW.out 0 4 8 12 (by omega) (by omega) (by omega) (by omega))
 go_wp2_with (first | (refine wpList_store_row rfl 77 _ _ rfl gy _ rfl rfl 77 _ RY.out (i46 _ RW'.out) (s46 RW.out RW'.out) (u32s_one _) ?_) | (refine wpList_load_row rfl 77 _ rfl gy rfl 77 _ (0, 0) _ (setRow_heap _ _ _ _ _ _ RY.out) Tryd.underlying77 rfl (i46 _ RW'.out) ?_))
 obtain ⟨U57, hU⟩ : ∃ U, U = V.setRow gy (u32s (qr (drounds 7 L) 0 4 8 12)) := ⟨_, rfl⟩
 rw [← hU]
 replace RY : Hid (Blk U57 gy 77 (u32s (qr (drounds 7 L) 0 4 8 12))) := Lib.hid (by rw [hU]; exact setRow_heap _ _ _ _ _ _ RY.out)
 replace RX : Hid (Blk U57 gx 77 (u32s L)) := Lib.hid (by rw [hU]; exact (setRow_other _ _ _ _ DY.out).trans RX.out)
 replace RZ : Hid (Blk U57 g6 53 _) := Lib.hid (by rw [hU]; exact (setRow_other _ _ _ _ D6.out).trans RZ.out)
 replace BW : Hid (Below gk w U57) := Lib.hid (by rw [hU]; exact below_setRow BW.out LY.out _)
 replace RW := RW'
 clear hU RW'
 clear V
 refine (rqL1 _ _ RW.out).mono ?_
 rintro e V ⟨rfl, hb⟩
 replace BW := Lib.hid (BW.out.trans (hb.mono (by have := RY.out.lt; have := LY.out; omega)))
 replace RY := Lib.hid (RY.out.below hb)
 replace RX := Lib.hid (RX.out.below hb)
 replace RZ := Lib.hid (RZ.out.below hb)
 clear hb
 have RW' := Lib.hid (qr_w16 RW.out 1 5 9 13 (by omega) (by omega) (by omega) (by omega))
 go_wp2_with (first | (refine wpList_store_row rfl 77 _ _ rfl gy _ rfl rfl 77 _ RY.out (i46 _ RW'.out) (s46 RW.out RW'.out) (u32s_one _) ?_) | (refine wpList_load_row rfl 77 _ rfl gy rfl 77 _ (0, 0) _ (setRow_heap _ _ _ _ _ _ RY.out) Tryd.underlying77 rfl (i46 _ RW'.out) ?_))
 obtain ⟨U58, hU⟩ : ∃ U, U = V.setRow gy (u32s (qr (qr (drounds 7 L) 0 4 8 12) 1 5 9 13)) := ⟨_, rfl⟩
 rw [← hU]
 replace RY : Hid (Blk U58 gy 77 (u32s (qr (qr (drounds 7 L) 0 4 8 12) 1 5 9 13))) := Lib.hid (by rw [hU]; exact setRow_heap _ _ _ _ _ _ RY.out)
 replace RX : Hid (Blk U58 gx 77 (u32s L)) := Lib.hid (by rw [hU]; exact (setRow_other _ _ _ _ DY.out).trans RX.out)
 replace RZ : Hid (Blk U58 g6 53 _) := Lib.hid (by rw [hU]; exact (setRow_other _ _ _ _ D6.out).trans RZ.out)
 replace BW : Hid (Below gk w U58) := Lib.hid (by rw [hU]; exact below_setRow BW.out LY.out _)
 replace RW := RW'
 clear hU RW'
 clear V
 refine (rqL2 _ _ RW.out).mono ?_
 rintro e V ⟨rfl, hb⟩
 replace BW := Lib.hid (BW.out.trans (hb.mono (by have := RY.out.lt; have := LY.out; omega)))
 replace RY := Lib.hid (RY.out.below hb)
 replace RX := Lib.hid (RX.out.below hb)
 replace RZ := Lib.hid (RZ.out.below hb)
 clear hb
 have RW' := Lib.hid (qr_w16 RW.out 2 6 10 14 (by omega) (by omega) (by omega) (by omega))
 go_wp2_with (first | (refine wpList_store_row rfl 77 _ _ rfl gy _ rfl rfl 77 _ RY.out (i46 _ RW'.out) (s46 RW.out RW'.out) (u32s_one _) ?_) | (refine wpList_load_row rfl 77 _ rfl gy rfl 77 _ (0, 0) _ (setRow_heap _ _ _ _ _ _ RY.out) Tryd.underlying77 rfl (i46 _ RW'.out) ?_))
 obtain ⟨U59, hU⟩ : ∃ U, U = V.setRow gy (u32s (qr (qr (qr (drounds 7 L) 0 4 8 12) 1 5 9 13) 2 6 10 14)) := ⟨_, rfl⟩
 rw [← hU]
 replace RY : Hid (Blk U59 gy 77 (u32s (qr (qr (qr (drounds 7 L) 0 4 8 12) 1 5 9 13) 2 6 10 14))) := Lib.hid (by rw [hU]; exact setRow_heap _ _ _ _ _ _ RY.out)
 replace RX : Hid (Blk U59 gx 77 (u32s L)) := Lib.hid (by rw [hU]; exact (setRow_other _ _ _ _ DY.out).trans RX.out)
 replace RZ : Hid (Blk U59 g6 53 _) := Lib.hid (by rw [hU]; exact (setRow_other _ _ _ _ D6.out).trans RZ.out)
 replace BW : Hid (Below gk w U59) := Lib.hid (by rw [hU]; exact below_setRow BW.out LY.out _)
 replace RW := RW'
 clear hU RW'
 clear V
 refine (rqL3 _ _ RW.out).mono ?_
 rintro e V ⟨rfl, hb⟩
 replace BW := Lib.hid (BW.out.trans (hb.mono (by have := RY.out.lt; have := LY.out; omega)))
 replace RY := Lib.hid (RY.out.below hb)
 replace RX := Lib.hid (RX.out.below hb)
 replace RZ := Lib.hid (RZ.out.below hb)
 clear hb
 have RW' := Lib.hid (qr_w16 RW.out 3 7 11 15 (by omega) (by omega) (by omega) (by omega))
 go_wp2_with (first | (refine wpList_store_row rfl 77 _ _ rfl gy _ rfl rfl 77 _ RY.out (i46 _ RW'.out) (s46 RW.out RW'.out) (u32s_one _) ?_) | (refine wpList_load_row rfl 77 _ rfl gy rfl 77 _ (0, 0) _ (setRow_heap _ _ _ _ _ _ RY.out) Tryd.underlying77 rfl (i46 _ RW'.out) ?_))
 obtain ⟨U60, hU⟩ : ∃ U, U = V.setRow gy (u32s (qr (qr (qr (qr (drounds 7 L) 0 4 8 12) 1 5 9 13) 2 6 10 14) 3 7 11 15)) := ⟨_, rfl⟩
 rw [← hU]
 replace RY : Hid (Blk U60 gy 77 (u32s (qr (qr (qr (qr (drounds 7 L) 0 4 8 12) 1 5 9 13) 2 6 10 14) 3 7 11 15))) := Lib.hid (by rw [hU]; exact setRow_heap _ _ _ _ _ _ RY.out)
 replace RX : Hid (Blk U60 gx 77 (u32s L)) := Lib.hid (by rw [hU]; exact (setRow_other _ _ _ _ DY.out).trans RX.out)
 replace RZ : Hid (Blk U60 g6 53 _) := Lib.hid (by rw [hU]; exact (setRow_other _ _ _ _ D6.out).trans RZ.out)
 replace BW : Hid (Below gk w U60) := Lib.hid (by rw [hU]; exact below_setRow BW.out LY.out _)
 replace RW := RW'
 clear hU RW'
 clear V
 refine (rqL4 _ _ RW.out).mono ?_
 rintro e V ⟨rfl, hb⟩
 replace BW := Lib.hid (BW.out.trans (hb.mono (by have := RY.out.lt; have := LY.out; omega)))
 replace RY := Lib.hid (RY.out.below hb)
 replace RX := Lib.hid (RX.out.below hb)
 replace RZ := Lib.hid (RZ.out.below hb)
 clear hb
 have RW' := Lib.hid (qr_w16 RW.out 0 5 10 15 (by omega) (by omega) (by omega) (by omega))
 go_wp2_with (first | (refine wpList_store_row rfl 77 _ _ rfl gy _ rfl rfl 77 _ RY.out (i46 _ RW'.out) (s46 RW.out RW'.out) (u32s_one _) ?_) | (refine wpList_load_row rfl 77 _ rfl gy rfl 77 _ (0, 0) _ (setRow_heap _ _ _ _ _ _ RY.out) Tryd.underlying77 rfl (i46 _ RW'.out) ?_))
 obtain ⟨U61, hU⟩ : ∃ U, U = V.setRow gy (u32s (qr (qr (qr (qr (qr (drounds 7 L) 0 4 8 12) 1 5 9 13) 2 6 10 14) 3 7 11 15) 0 5 10 15)) := ⟨_, rfl⟩
 rw [← hU]
 replace RY : Hid (Blk U61 gy 77 (u32s (qr (qr (qr (qr (qr (drounds 7 L) 0 4 8 12) 1 5 9 13) 2 6 10 14) 3 7 11 15) 0 5 10 15))) := Lib.hid (by rw [hU]; exact setRow_heap _ _ _ _ _ _ RY.out)
 replace RX : Hid (Blk U61 gx 77 (u32s L)) := Lib.hid (by rw [hU]; exact (setRow_other _ _ _ _ DY.out).trans RX.out)
 replace RZ : Hid (Blk U61 g6 53 _) := Lib.hid (by rw [hU]; exact (setRow_other _ _ _ _ D6.out).trans RZ.out)
 replace BW : Hid (Below gk w U61) := Lib.hid (by rw [hU]; exact below_setRow BW.out LY.out _)
 replace RW := RW'
 clear hU RW'
 clear V
 refine (rqL5 _ _ RW.out).mono ?_
 rintro e V ⟨rfl, hb⟩
 replace BW := Lib.hid (BW.out.trans (hb.mono (by have := RY.out.lt; have := LY.out; omega)))
 replace RY := Lib.hid (RY.out.below hb)
 replace RX := Lib.hid (RX.out.below hb)
 replace RZ := Lib.hid (RZ.out.below hb)
 clear hb
 have RW' := Lib.hid (qr_w16 RW.out 1 6 11 12 (by omega) (by omega) (by omega) (by omega))
 go_wp2_with (first | (refine wpList_store_row rfl 77 _ _ rfl gy _ rfl rfl 77 _ RY.out (i46 _ RW'.out) (s46 RW.out RW'.out) (u32s_one _) ?_) | (refine wpList_load_row rfl 77 _ rfl gy rfl 77 _ (0, 0) _ (setRow_heap _ _ _ _ _ _ RY.out) Tryd.underlying77 rfl (i46 _ RW'.out) ?_))
 obtain ⟨U62, hU⟩ : ∃ U, U = V.setRow gy (u32s (qr (qr (qr (qr (qr (qr (drounds 7 L) 0 4 8 12) 1 5 9 13) 2 6 10 14) 3 7 11 15) 0 5 10 15) 1 6 11 12)) := ⟨_, rfl⟩
 rw [← hU]
 replace RY : Hid (Blk U62 gy 77 (u32s (qr (qr (qr (qr (qr (qr (drounds 7 L) 0 4 8 12) 1 5 9 13) 2 6 10 14) 3 7 11 15) 0 5 10 15) 1 6 11 12))) := Lib.hid (by rw [hU]; exact setRow_heap _ _ _ _ _ _ RY.out)
 replace RX : Hid (Blk U62 gx 77 (u32s L)) := Lib.hid (by rw [hU]; exact (setRow_other _ _ _ _ DY.out).trans RX.out)
 replace RZ : Hid (Blk U62 g6 53 _) := Lib.hid (by rw [hU]; exact (setRow_other _ _ _ _ D6.out).trans RZ.out)
 replace BW : Hid (Below gk w U62) := Lib.hid (by rw [hU]; exact below_setRow BW.out LY.out _)
 replace RW := RW'
 clear hU RW'
 clear V
 refine (rqL6 _ _ RW.out).mono ?_
 rintro e V ⟨rfl, hb⟩
 replace BW := Lib.hid (BW.out.trans (hb.mono (by have := RY.out.lt; have := LY.out; omega)))
 replace RY := Lib.hid (RY.out.below hb)
 replace RX := Lib.hid (RX.out.below hb)
 replace RZ := Lib.hid (RZ.out.below hb)
 clear hb
 have RW' := Lib.hid (qr_w16 RW.out 2 7 8 13 (by omega) (by omega) (by omega) (by omega))
 go_wp2_with (first | (refine wpList_store_row rfl 77 _ _ rfl gy _ rfl rfl 77 _ RY.out (i46 _ RW'.out) (s46 RW.out RW'.out) (u32s_one _) ?_) | (refine wpList_load_row rfl 77 _ rfl gy rfl 77 _ (0, 0) _ (setRow_heap _ _ _ _ _ _ RY.out) Tryd.underlying77 rfl (i46 _ RW'.out) ?_))
 obtain ⟨U63, hU⟩ : ∃ U, U = V.setRow gy (u32s (qr (qr (qr (qr (qr (qr (qr (drounds 7 L) 0 4 8 12) 1 5 9 13) 2 6 10 14) 3 7 11 15) 0 5 10 15) 1 6 11 12) 2 7 8 13)) := ⟨_, rfl⟩
 rw [← hU]
 replace RY : Hid (Blk U63 gy 77 (u32s (qr (qr (qr (qr (qr (qr (qr (drounds 7 L) 0 4 8 12) 1 5 9 13) 2 6 10 14) 3 7 11 15) 0 5 10 15) 1 6 11 12) 2 7 8 13))) := Lib.hid (by rw [hU]; exact setRow_heap _ _ _ _ _ _ RY.out)
 replace RX : Hid (Blk U63 gx 77 (u32s L)) := Lib.hid (by rw [hU]; exact (setRow_other _ _ _ _ DY.out).trans RX.out)
 replace RZ : Hid (Blk U63 g6 53 _) := Lib.hid (by rw [hU]; exact (setRow_other _ _ _ _ D6.out).trans RZ.out)
 replace BW : Hid (Below gk w U63) := Lib.hid (by rw [hU]; exact below_setRow BW.out LY.out _)
 replace RW := RW'
 clear hU RW'
 clear V
 refine (rqL7 _ _ RW.out).mono ?_
 rintro e V ⟨rfl, hb⟩
 replace BW := Lib.hid (BW.out.trans (hb.mono (by have := RY.out.lt; have := LY.out; omega)))
 replace RY := Lib.hid (RY.out.below hb)
 replace RX := Lib.hid (RX.out.below hb)
 replace RZ := Lib.hid (RZ.out.below hb)
 clear hb
 have RW' := Lib.hid (qr_w16 RW.out 3 4 9 14 (by omega) (by omega) (by omega) (by omega))
 go_wp2_with (first | (refine wpList_store_row rfl 77 _ _ rfl gy _ rfl rfl 77 _ RY.out (i46 _ RW'.out) (s46 RW.out RW'.out) (u32s_one _) ?_) | (refine wpList_load_row rfl 77 _ rfl gy rfl 77 _ (0, 0) _ (setRow_heap _ _ _ _ _ _ RY.out) Tryd.underlying77 rfl (i46 _ RW'.out) ?_))
 obtain ⟨U64, hU⟩ : ∃ U, U = V.setRow gy (u32s (qr (qr (qr (qr (qr (qr (qr (qr (drounds 7 L) 0 4 8 12) 1 5 9 13) 2 6 10 14) 3 7 11 15) 0 5 10 15) 1 6 11 12) 2 7 8 13) 3 4 9 14)) := ⟨_, rfl⟩
 rw [← hU]
 replace RY : Hid (Blk U64 gy 77 (u32s (qr (qr (qr (qr (qr (qr (qr (qr (drounds 7 L) 0 4 8 12) 1 5 9 13) 2 6 10 14) 3 7 11 15) 0 5 10 15) 1 6 11 12) 2 7 8 13) 3 4 9 14))) := Lib.hid (by rw [hU]; exact setRow_heap _ _ _ _ _ _ RY.out)
 replace RX : Hid (Blk U64 gx 77 (u32s L)) := Lib.hid (by rw [hU]; exact (setRow_other _ _ _ _ DY.out).trans RX.out)
 replace RZ : Hid (Blk U64 g6 53 _) := Lib.hid (by rw [hU]; exact (setRow_other _ _ _ _ D6.out).trans RZ.out)
 replace BW : Hid (Below gk w U64) := Lib.hid (by rw [hU]; exact below_setRow BW.out LY.out _)
 replace RW := RW'
 clear hU RW'
 clear V
 replace RY : Hid (Blk U64 gy 77 (u32s (drounds 8 L))) := RY
 clear RW
 rw [rounds_succ]
 have RW : Hid (W16 (drounds 8 L)) := Lib.hid (drounds_w16 WF.out 8)
 go_wp2_with (refine wpList_load_row rfl 77 _ rfl gy rfl 77 _ (0, 0) _ RY.out Tryd.underlying77 rfl (i46 _ RW.out) ?_)
 refine (rqL0 _ _ RW.out).mono ?_
 rintro e V ⟨rfl, hb⟩
 replace BW := Lib.hid (BW.out.trans (hb.mono (by have := RY.out.lt; have := LY.out; omega)))
 replace RY := Lib.hid (RY.out.below hb)
 replace RX := Lib.hid (RX.out.below hb)
 replace RZ := Lib.hid (RZ.out.below hb)
 clear hb
 have RW' := Lib.hid (qr_w16 RW.out 0 4 8 12 (by omega) (by omega) (by omega) (by omega))
 go_wp2_with (first | (refine wpList_store_row rfl 77 _ _ rfl gy _ rfl rfl 77 _ RY.out (i46 _ RW'.out) (s46 RW.out RW'.out) (u32s_one _) ?_) | (refine wpList_load_row rfl 77 _ rfl gy rfl 77 _ (0, 0) _ (setRow_heap _ _ _ _ _ _ RY.out) Tryd.underlying77 rfl (i46 _ RW'.out) ?_))
 obtain ⟨U65, hU⟩ : ∃ U, U = V.setRow gy (u32s (qr (drounds 8 L) 0 4 8 12)) := ⟨_, rfl⟩
 rw [← hU]
 replace RY : Hid (Blk U65 gy 77 (u32s (qr (drounds 8 L) 0 4 8 12))) := Lib.hid (by rw [hU]; exact setRow_heap _ _ _ _ _ _ RY.out)
 replace RX : Hid (Blk U65 gx 77 (u32s L)) := Lib.hid (by rw [hU]; exact (setRow_other _ _ _ _ DY.out).trans RX.out)
 replace RZ : Hid (Blk U65 g6 53 _) := Lib.hid (by rw [hU]; exact (setRow_other _ _ _ _ D6.out).trans RZ.out)
 replace BW : Hid (Below gk w U65) := Lib.hid (by rw [hU]; exact below_setRow BW.out LY.out _)
 replace RW := RW'
 clear hU RW'
 clear V
 refine (rqL1 _ _ RW.out).mono ?_
 rintro e V ⟨rfl, hb⟩
 replace BW := Lib.hid (BW.out.trans (hb.mono (by have := RY.out.lt; have := LY.out; omega)))
 replace RY := Lib.hid (RY.out.below hb)
 replace RX := Lib.hid (RX.out.below hb)
 replace RZ := Lib.hid (RZ.out.below hb)
 clear hb
 have RW' := Lib.hid (qr_w16 RW.out 1 5 9 13 (by omega) (by omega) (by omega) (by omega))
 go_wp2_with (first | (refine wpList_store_row rfl 77 _ _ rfl gy _ rfl rfl 77 _ RY.out (i46 _ RW'.out) (s46 RW.out RW'.out) (u32s_one _) ?_) | (refine wpList_load_row rfl 77 _ rfl gy rfl 77 _ (0, 0) _ (setRow_heap _ _ _ _ _ _ RY.out) Tryd.underlying77 rfl (i46 _ RW'.out) ?_))
 obtain ⟨U66, hU⟩ : ∃ U, U = V.setRow gy (u32s (qr (qr (drounds 8 L) 0 4 8 12) 1 5 9 13)) := ⟨_, rfl⟩
 rw [← hU]
 replace RY : Hid (Blk U66 gy 77 (u32s (qr (qr (drounds 8 L) 0 4 8 12) 1 5 9 13))) := Lib.hid (by rw [hU]; exact setRow_heap _ _ _ _ _ _ RY.out)
 replace RX : Hid (Blk U66 gx 77 (u32s L)) := Lib.hid (by rw [hU]; exact (setRow_other _ _ _ _ DY.out).trans RX.out)
 replace RZ : Hid (Blk U66 g6 53 _) := Lib.hid (by rw [hU]; exact (setRow_other _ _ _ _ D6.out).trans RZ.out)
 replace BW : Hid (Below gk w U66) := Lib.hid (by rw [hU]; exact below_setRow BW.out LY.out _)
 replace RW := RW'
 clear hU RW'
 clear V
 refine (rqL2 _ _ RW.out).mono ?_
 rintro e V ⟨rfl, hb⟩
 replace BW := Lib.hid (BW.out.trans (hb.mono (by have := RY.out.lt; have := LY.out; omega)))
 replace RY := Lib.hid (RY.out.below hb)
 replace RX := Lib.hid (RX.out.below hb)
 replace RZ := Lib.hid (RZ.out.below hb)
 clear hb
 have RW' := Lib.hid (qr_w16 RW.out 2 6 10 14 (by omega) (by omega) (by omega) (by omega))
 go_wp2_with (first | (refine wpList_store_row rfl 77 _ _ rfl gy _ rfl rfl 77 _ RY.out (i46 _ RW'.out) (s46 RW.out RW'.out) (u32s_one _) ?_) | (refine wpList_load_row rfl 77 _ rfl gy rfl 77 _ (0, 0) _ (setRow_heap _ _ _ _ _ _ RY.out) Tryd.underlying77 rfl (i46 _ RW'.out) ?_))
 obtain ⟨U67, hU⟩ : ∃ U, U = V.setRow gy (u32s (qr (qr (qr (drounds 8 L) 0 4 8 12) 1 5 9 13) 2 6 10 14)) := ⟨_, rfl⟩
 rw [← hU]
 replace RY : Hid (Blk U67 gy 77 (u32s (qr (qr (qr (drounds 8 L) 0 4 8 12) 1 5 9 13) 2 6 10 14))) := Lib.hid (by rw [hU]; exact setRow_heap _ _ _ _ _ _ RY.out)
 replace RX : Hid (Blk U67 gx 77 (u32s L)) := Lib.hid (by rw [hU]; exact (setRow_other _ _ _ _ DY.out).trans RX.out)
 replace RZ : Hid (Blk U67 g6 53 _) := Lib.hid (by rw [hU]; exact (setRow_other _ _ _ _ D6.out).trans RZ.out)
 replace BW : Hid (Below gk w U67) := Lib.hid (by rw [hU]; exact below_setRow BW.out LY.out _)
 replace RW := RW'
 clear hU RW'
 clear V
 refine (rqL3 _ _ RW.out).mono ?_
 rintro e V ⟨rfl, hb⟩
 replace BW := Lib.hid (BW.out.trans (hb.mono (by have := RY.out.lt; have := LY.out; omega)))
 replace RY := Lib.hid (RY.out.below hb)
 replace RX := Lib.hid (RX.out.below hb)
 replace RZ := Lib.hid (RZ.out.below hb)
 clear hb
 have RW' := Lib.hid (qr_w16 RW.out 3 7 11 15 (by omega) (by omega) (by omega) (by omega))
 go_wp2_with (first | (refine wpList_store_row rfl 77 _ _ rfl gy _ rfl rfl 77 _ RY.out (i46 _ RW'.out) (s46 RW.out RW'.out) (u32s_one _) ?_) | (refine wpList_load_row rfl 77 _ rfl gy rfl 77 _ (0, 0) _ (setRow_heap _ _ _ _ _ _ RY.out) Tryd.underlying77 rfl (i46 _ RW'.out) ?_))
 obtain ⟨U68, hU⟩ : ∃ U, U = V.setRow gy (u32s (qr (qr (qr (qr (drounds 8 L) 0 4 8 12) 1 5 9 13) 2 6 10 14) 3 7 11 15)) := ⟨_, rfl⟩
 rw [← hU]
 replace RY : Hid (Blk U68 gy 77 (u32s (qr (qr (qr (qr (drounds 8 L) 0 4 8 12) 1 5 9 13) 2 6 10 14) 3 7 11 15))) := Lib.hid (by rw [hU]; exact setRow_heap _ _ _ _ _ _ RY.out)
 replace RX : Hid (Blk U68 gx 77 (u32s L)) := Lib.hid (by rw [hU]; exact (setRow_other _ _ _ _ DY.out).trans RX.out)
 replace RZ : Hid (Blk U68 g6 53 _) := Lib.hid (by rw [hU]; exact (setRow_other _ _ _ _ D6.out).trans RZ.out)
 replace BW : Hid (Below gk w U68) := Lib.hid (by rw [hU]; exact below_setRow BW.out LY.out _)
 replace RW := RW'
 clear hU RW'
 clear V
 refine (rqL4 _ _ RW.out).mono ?_
 rintro e V ⟨rfl, hb⟩
 replace BW := Lib.hid (BW.out.trans (hb.mono (by have := RY.out.lt; have := LY.out; omega)))
 replace RY := Lib.hid (RY.out.below hb)
 replace RX := Lib.hid (RX.out.below hb)
 replace RZ := Lib.hid (RZ.out.below hb)
 clear hb
 have RW' := Lib.hid (qr_w16 RW.out 0 5 10 15 (by omega) (by omega) (by omega) (by omega))
 go_wp2_with (first | (refine wpList_store_row rfl 77 _ _ rfl gy _ rfl rfl 77 _ RY.out (i46 _ RW'.out) (s46 RW.out RW'.out) (u32s_one _) ?_) | (refine wpList_load_row rfl 77 _ rfl gy rfl 77 _ (0, 0) _ (setRow_heap _ _ _ _ _ _ RY.out) Tryd.underlying77 rfl (i46 _ RW'.out) ?_))
 obtain ⟨U69, hU⟩ : ∃ U, U = V.setRow gy (u32s (qr (qr (qr (qr (qr (drounds 8 L) 0 4 8 12) 1 5 9 13) 2 6 10 14) 3 7 11 15) 0 5 10 15)) := ⟨_, rfl⟩
 rw [← hU]
 replace RY : Hid (Blk U69 gy 77 (u32s (qr (qr (qr (qr (qr (drounds 8 L) 0 4 8 12) 1 5 9 13) 2 6 10 14) 3 7 11 15) 0 5 10 15))) := Lib.hid (by rw [hU]; exact setRow_heap _ _ _ _ _ _ RY.out)
 replace RX : Hid (Blk U69 gx 77 (u32s L)) := Lib.hid (by rw [hU]; exact (setRow_other _ _ _ _ DY.out).trans RX.out)
 replace RZ : Hid (Blk U69 g6 53 _) := Lib.hid (by rw [hU]; exact (setRow_other _ _ _ _ D6.out).trans RZ.out)
 replace BW : Hid (Below gk w U69) := Lib.hid (by rw [hU]; exact below_setRow BW.out LY.out _)
 replace RW := RW'
 clear hU RW'
 clear V
 refine (rqL5 _ _ RW.out).mono ?_
 rintro e V ⟨rfl, hb⟩
 replace BW := Lib.hid (BW.out.trans (hb.mono (by have := RY.out.lt; have := LY.out; omega)))
 replace RY := Lib.hid (RY.out.below hb)
 replace RX := Lib.hid (RX.out.below hb)
 replace RZ := Lib.hid (RZ.out.below hb)
 clear hb
 have RW' := Lib.hid (qr_w16 RW.out 1 6 11 12 (by omega) (by omega) (by omega) (by omega))
 go_wp2_with (first | (refine wpList_store_row rfl 77 _ _ rfl gy _ rfl rfl 77 _ RY.out (i46 _ RW'.out) (s46 RW.out RW'.out) (u32s_one _) ?_) | (refine wpList_load_row rfl 77 _ rfl gy rfl 77 _ (0, 0) _ (setRow_heap _ _ _ _ _ _ RY.out) Tryd.underlying77 rfl (i46 _ RW'.out) ?_))
 obtain ⟨U70, hU⟩ : ∃ U, U = V.setRow gy (u32s (qr (qr (qr (qr (qr (qr (drounds 8 L) 0 4 8 12) 1 5 9 13) 2 6 10 14) 3 7 11 15) 0 5 10 15) 1 6 11 12)) := ⟨_, rfl⟩
 rw [← hU]
 replace RY : Hid (Blk U70 gy 77 (u32s (qr (qr (qr (qr (qr (qr (drounds 8 L) 0 4 8 12) 1 5 9 13) 2 6 10 14) 3 7 11 15) 0 5 10 15) 1 6 11 12))) := Lib.hid (by rw [hU]; exact setRow_heap _ _ _ _ _ _ RY.out)
 replace RX : Hid (Blk U70 gx 77 (u32s L)) := Lib.hid (by rw [hU]; exact (setRow_other _ _ _ _ DY.out).trans RX.out)
 replace RZ : Hid (Blk U70 g6 53 _) := Lib.hid (by rw [hU]; exact (setRow_other _ _ _ _ D6.out).trans RZ.out)
 replace BW : Hid (Below gk w U70) := Lib.hid (by rw [hU]; exact below_setRow BW.out LY.out _)
 replace RW := RW'
 clear hU RW'
 clear V
 refine (rqL6 _ _ RW.out).mono ?_
 rintro e V ⟨rfl, hb⟩
 replace BW := Lib.hid (BW.out.trans (hb.mono (by have := RY.out.lt; have := LY.out; omega)))
 replace RY := Lib.hid (RY.out.below hb)
 replace RX := Lib.hid (RX.out.below hb)
 replace RZ := Lib.hid (RZ.out.below hb)
 clear hb
 have RW' := Lib.hid (qr_w16 RW.out 2 7 8 13 (by omega) (by omega) (by omega) (by omega))
 go_wp2_with (first | (refine wpList_store_row rfl 77 _ _ rfl gy _ rfl rfl 77 _ RY.out (i46 _ RW'.out) (s46 RW.out RW'.out) (u32s_one _) ?_) | (refine wpList_load_row rfl 77 _ rfl gy rfl 77 _ (0, 0) _ (setRow_heap _ _ _ _ _ _ RY.out) Tryd.underlying77 rfl (i46 _ RW'.out) ?_))
 obtain ⟨U71, hU⟩ : ∃ U, U = V.setRow gy (u32s (qr (qr (qr (qr (qr (qr (qr (drounds 8 L) 0 4 8 12) 1 5 9 13) 2 6 10 14) 3 7 11 15) 0 5 10 15) 1 6 11 12) 2 7 8 13)) := ⟨_, rfl⟩
 rw [← hU]
 replace RY : Hid (Blk U71 gy 77 (u32s (qr (qr (qr (qr (qr (qr (qr (drounds 8 L) 0 4 8 12) 1 5 9 13) 2 6 10 14) 3 7 11 15) 0 5 10 15) 1 6 11 12) 2 7 8 13))) := Lib.hid (by rw [hU]; exact setRow_heap _ _ _ _ _ _ RY.out)
 replace RX : Hid (Blk U71 gx 77 (u32s L)) := Lib.hid (by rw [hU]; exact (setRow_other _ _ _ _ DY.out).trans RX.out)
 replace RZ : Hid (Blk U71 g6 53 _) := Lib.hid (by rw [hU]; exact (setRow_other _ _ _ _ D6.out).trans RZ.out)
 replace BW : Hid (Below gk w U71) := Lib.hid (by rw [hU]; exact below_setRow BW.out LY.out _)
 replace RW := RW'
 clear hU RW'
 clear V
 refine (rqL7 _ _ RW.out).mono ?_
 rintro e V ⟨rfl, hb⟩
 replace BW := Lib.hid (BW.out.trans (hb.mono (by have := RY.out.lt; have := LY.out; omega)))
 replace RY := Lib.hid (RY.out.below hb)
 replace RX := Lib.hid (RX.out.below hb)
 replace RZ := Lib.hid (RZ.out.below hb)
 clear hb
 have RW' := Lib.hid (qr_w16 RW.out 3 4 9 14 (by omega) (by omega) (by omega) (by omega))
 go_wp2_with (first | (refine wpList_store_row rfl 77 _ _ rfl gy _ rfl rfl 77 _ RY.out (i46 _ RW'.out) (s46 RW.out RW'.out) (u32s_one _) ?_) | (refine wpList_load_row rfl 77 _ rfl gy rfl 77 _ (0, 0) _ (setRow_heap _ _ _ _ _ _ RY.out) Tryd.underlying77 rfl (i46 _ RW'.out) ?_))
 obtain ⟨U72, hU⟩ : ∃ U, U = V.setRow gy (u32s (qr (qr (qr (qr (qr (qr (qr (qr (drounds 8 L) 0 4 8 12) 1 5 9 13) 2 6 10 14) 3 7 11 15) 0 5 10 15) 1 6 11 12) 2 7 8 13) 3 4 9 14)) := ⟨_, rfl⟩
 rw [← hU]
 replace RY : Hid (Blk U72 gy 77 (u32s (qr (qr (qr (qr (qr (qr (qr (qr (drounds 8 L) 0 4 8 12) 1 5 9 13) 2 6 10 14) 3 7 11 15) 0 5 10 15) 1 6 11 12) 2 7 8 13) 3 4 9 14))) := Lib.hid (by rw [hU]; exact setRow_heap _ _ _ _ _ _ RY.out)
 replace RX : Hid (Blk U72 gx 77 (u32s L)) := Lib.hid (by rw [hU]; exact (setRow_other _ _ _ _ DY.out).trans RX.out)
 replace RZ : Hid (Blk U72 g6 53 _) := Lib.hid (by rw [hU]; exact (setRow_other _ _ _ _ D6.out).trans RZ.out)
 replace BW : Hid (Below gk w U72) := Lib.hid (by rw [hU]; exact below_setRow BW.out LY.out _)
 replace RW := RW'
 clear hU RW'
 clear V
 replace RY : Hid (Blk U72 gy 77 (u32s (drounds 9 L))) := RY
 clear RW
 rw [rounds_succ]
 have RW : Hid (W16 (drounds 9 L)) := Lib.hid (drounds_w16 WF.out 9)
 go_wp2_with (refine wpList_load_row rfl 77 _ rfl gy rfl 77 _ (0, 0) _ RY.out Tryd.underlying77 rfl (i46 _ RW.out) ?_)
 refine (rqL0 _ _ RW.out).mono ?_
 rintro e V ⟨rfl, hb⟩
 replace BW := Lib.hid (BW.out.trans (hb.mono (by have := RY.out.lt; have := LY.out; omega)))
 replace RY := Lib.hid (RY.out.below hb)
 replace RX := Lib.hid (RX.out.below hb)
 replace RZ := Lib.hid (RZ.out.below hb)
 clear hb
 have RW' := Lib.hid (qr_w16 RW.out 0 4 8 12 (by omega) (by omega) (by omega) (by omega))
 go_wp2_with (first | (refine wpList_store_row rfl 77 _ _ rfl gy _ rfl rfl 77 _ RY.out (i46 _ RW'.out) (s46 RW.out RW'.out) (u32s_one _) ?_) | (refine wpList_load_row rfl 77 _ rfl gy rfl 77 _ (0, 0) _ (setRow_heap _ _ _ _ _ _ RY.out) Tryd.underlying77 rfl (i46 _ RW'.out) ?_))
 obtain ⟨U73, hU⟩ : ∃ U, U = V.setRow gy (u32s (qr (drounds 9 L) 0 4 8 12)) := ⟨_, rfl⟩
 rw [← hU]
 replace RY : Hid (Blk U73 gy 77 (u32s (qr (drounds 9 L) 0 4 8 12))) := Lib.hid (by rw [hU]; exact setRow_heap _ _ _ _ _ _ RY.out)
 replace RX : Hid (Blk U73 gx 77 (u32s L)) := Lib.hid (by rw [hU]; exact (setRow_other _ _ _ _ DY.out).trans RX.out)
 replace RZ : Hid (Blk U73 g6 53 _) := Lib.hid (by rw [hU]; exact (setRow_other _ _ _ _ D6.out).trans RZ.out)
 replace BW : Hid (Below gk w U73) := Lib.hid (by rw [hU]; exact below_setRow BW.out LY.out _)
 replace RW := RW'
 clear hU RW'
 clear V
 refine (rqL1 _ _ RW.out).mono ?_
 rintro e V ⟨rfl, hb⟩
 replace BW := Lib.hid (BW.out.trans (hb.mono (by have := RY.out.lt; have := LY.out; omega)))
 replace RY := Lib.hid (RY.out.below hb)
 replace RX := Lib.hid (RX.out.below hb)
 replace RZ := Lib.hid (RZ.out.below hb)
 clear hb
 have RW' := Lib.hid (qr_w16 RW.out 1 5 9 13 (by omega) (by omega) (by omega) (by omega))
 go_wp2_with (first | (refine wpList_store_row rfl 77 _ _ rfl gy _ rfl rfl 77 _ RY.out (i46 _ RW'.out) (s46 RW.out RW'.out) (u32s_one _) ?_) | (refine wpList_load_row rfl 77 _ rfl gy rfl 77 _ (0, 0) _ (setRow_heap _ _ _ _ _ _ RY.out) Tryd.underlying77 rfl (i46 _ RW'.out) ?_))
 obtain ⟨U74, hU⟩ : ∃ U, U = V.setRow gy (u32s (qr (qr (drounds 9 L) 0 4 8 12) 1 5 9 13)) := ⟨_, rfl⟩
 rw [← hU]
 replace RY : Hid (Blk U74 gy 77 (u32s (qr (qr (drounds 9 L) 0 4 8 12) 1 5 9 13))) := Lib.hid (by rw [hU]; exact setRow_heap _ _ _ _ _ _ RY.out)
 replace RX : Hid (Blk U74 gx 77 (u32s L)) := Lib.hid (by rw [hU]; exact (setRow_other _ _ _ _ DY.out).trans RX.out)
 replace RZ : Hid (Blk U74 g6 53 _) := Lib.hid (by rw [hU]; exact (setRow_other _ _ _ _ D6.out).trans RZ.out)
 replace BW : Hid (Below gk w U74) := Lib.hid (by rw [hU]; exact below_setRow BW.out LY.out _)
 replace RW := RW'
 clear hU RW'
 clear V
 refine (rqL2 _ _ RW.out).mono ?_
 rintro e V ⟨rfl, hb⟩
 replace BW := Lib.hid (BW.out.trans (hb.mono (by have := RY.out.lt; have := LY.out; omega)))
 replace RY := Lib.hid (RY.out.below hb)
 replace RX := Lib.hid (RX.out.below hb)
 replace RZ := Lib.hid (RZ.out.below hb)
 clear hb
 have RW' := Lib.hid (qr_w16 RW.out 2 6 10 14 (by omega) (by omega) (by omega) (by omega))
 go_wp2_with (first | (refine wpList_store_row rfl 77 _ _ rfl gy _ rfl rfl 77 _ RY.out (i46 _ RW'.out) (s46 RW.out RW'.out) (u32s_one _) ?_) | (refine wpList_load_row rfl 77 _ rfl gy rfl 77 _ (0, 0) _ (setRow_heap _ _ _ _ _ _ RY.out) Tryd.underlying77 rfl (i46 _ RW'.out) ?_))
 obtain ⟨U75, hU⟩ : ∃ U, U = V.setRow gy (u32s (qr (qr (qr (drounds 9 L) 0 4 8 12) 1 5 9 13) 2 6 10 14)) := ⟨_, rfl⟩
 rw [← hU]
 replace RY : Hid (Blk U75 gy 77 (u32s (qr (qr (qr (drounds 9 L) 0 4 8 12) 1 5 9 13) 2 6 10 14))) := Lib.hid (by rw [hU]; exact setRow_heap _ _ _ _ _ _ RY.out)
 replace RX : Hid (Blk U75 gx 77 (u32s L)) := Lib.hid (by rw [hU]; exact (setRow_other _ _ _ _ DY.out).trans RX.out)
 replace RZ : Hid (Blk U75 g6 53 _) := Lib.hid (by rw [hU]; exact (setRow_other _ _ _ _ D6.out).trans RZ.out)
 replace BW : Hid (Below gk w U75) := Lib.hid (by rw [hU]; exact below_setRow BW.out LY.out _)
 replace RW := RW'
 clear hU RW'
 clear V
 refine (rqL3 _ _ RW.out).mono ?_
 rintro e V ⟨rfl, hb⟩
 replace BW := Lib.hid (BW.out.trans (hb.mono (by have := RY.out.lt; have := LY.out; omega)))
 replace RY := Lib.hid (RY.out.below hb)
 replace RX := Lib.hid (RX.out.below hb)
 replace RZ := Lib.hid (RZ.out.below hb)
 clear hb
 have RW' := Lib.hid (qr_w16 RW.out 3 7 11 15 (by omega) (by omega) (by omega) (by omega))
 go_wp2_with (first | (refine wpList_store_row rfl 77 _ _ rfl gy _ rfl rfl 77 _ RY.out (i46 _ RW'.out) (s46 RW.out RW'.out) (u32s_one _) ?_) | (refine wpList_load_row rfl 77 _ rfl gy rfl 77 _ (0, 0) _ (setRow_heap _ _ _ _ _ _ RY.out) Tryd.underlying77 rfl (i46 _ RW'.out) ?_))
 obtain ⟨U76, hU⟩ : ∃ U, U = V.setRow gy (u32s (qr (qr (qr (qr (drounds 9 L) 0 4 8 12) 1 5 9 13) 2 6 10 14) 3 7 11 15)) := ⟨_, rfl⟩
 rw [← hU]
 replace RY : Hid (Blk U76 gy 77 (u32s (qr (qr (qr (qr (drounds 9 L) 0 4 8 12) 1 5 9 13) 2 6 10 14) 3 7 11 15))) := Lib.hid (by rw [hU]; exact setRow_heap _ _ _ _ _ _ RY.out)
 replace RX : Hid (Blk U76 gx 77 (u32s L)) := Lib.hid (by rw [hU]; exact (setRow_other _ _ _ _ DY.out).trans RX.out)
 replace RZ : Hid (Blk U76 g6 53 _) := Lib.hid (by rw [hU]; exact (setRow_other _ _ _ _ D6.out).trans RZ.out)
 replace BW : Hid (Below gk w U76) := Lib.hid (by rw [hU]; exact below_setRow BW.out LY.out _)
 replace RW := RW'
 clear hU RW'
 clear V
 refine (rqL4 _ _ RW.out).mono ?_
 rintro e V ⟨rfl, hb⟩
 replace BW := Lib.hid (BW.out.trans (hb.mono (by have := RY.out.lt; have := LY.out; omega)))
 replace RY := Lib.hid (RY.out.below hb)
 replace RX := Lib.hid (RX.out.below hb)
 replace RZ := Lib.hid (RZ.out.below hb)
 clear hb
 have RW' := Lib.hid (qr_w16 RW.out 0 5 10 15 (by omega) (by omega) (by omega) (by omega))
 go_wp2_with (first | (refine wpList_store_row rfl 77 _ _ rfl gy _ rfl rfl 77 _ RY.out (i46 _ RW'.out) (s46 RW.out RW'.out) (u32s_one _) ?_) | (refine wpList_load_row rfl 77 _ rfl gy rfl 77 _ (0, 0) _ (setRow_heap _ _ _ _ _ _ RY.out) Tryd.underlying77 rfl (i46 _ RW'.out) ?_))
 obtain ⟨U77, hU⟩ : ∃ U, U = V.setRow gy (u32s (qr (qr (qr (qr (qr (drounds 9 L) 0 4 8 12) 1 5 9 13) 2 6 10 14) 3 7 11 15) 0 5 10 15)) := ⟨_, rfl⟩
 rw [← hU]
 replace RY : Hid (Blk U77 gy 77 (u32s (qr (qr (qr (qr (qr (drounds 9 L) 0 4 8 12) 1 5 9 13) 2 6 10 14) 3 7 11 15) 0 5 10 15))) := Lib.hid (by rw [hU]; exact setRow_heap _ _ _ _ _ _ RY.out)
 replace RX : Hid (Blk U77 gx 77 (u32s L)) := Lib.hid (by rw [hU]; exact (setRow_other _ _ _ _ DY.out).trans RX.out)
 replace RZ : Hid (Blk U77 g6 53 _) := Lib.hid (by rw [hU]; exact (setRow_other _ _ _ _ D6.out).trans RZ.out)
 replace BW : Hid (Below gk w U77) := Lib.hid (by rw [hU]; exact below_setRow BW.out LY.out _)
 replace RW := RW'
 clear hU RW'
 clear V
 refine (rqL5 _ _ RW.out).mono ?_
 rintro e V ⟨rfl, hb⟩
 replace BW := Lib.hid (BW.out.trans (hb.mono (by have := RY.out.lt; have := LY.out; omega)))
 replace RY := Lib.hid (RY.out.below hb)
 replace RX := Lib.hid (RX.out.below hb)
 replace RZ := Lib.hid (RZ.out.below hb)
 clear hb
 have RW' := Lib.hid (qr_w16 RW.out 1 6 11 12 (by omega) (by omega) (by omega) (by omega))
 go_wp2_with (first | (refine wpList_store_row rfl 77 _ _ rfl gy _ rfl rfl 77 _ RY.out (i46 _ RW'.out) (s46 RW.out RW'.out) (u32s_one _) ?_) | (refine wpList_load_row rfl 77 _ rfl gy rfl 77 _ (0, 0) _ (setRow_heap _ _ _ _ _ _ RY.out) Tryd.underlying77 rfl (i46 _ RW'.out) ?_))
 obtain ⟨U78, hU⟩ : ∃ U, U = V.setRow gy (u32s (qr (qr (qr (qr (qr (qr (drounds 9 L) 0 4 8 12) 1 5 9 13) 2 6 10 14) 3 7 11 15) 0 5 10 15) 1 6 11 12)) := ⟨_, rfl⟩
 rw [← hU]
 replace RY : Hid (Blk U78 gy 77 (u32s (qr (qr (qr (qr (qr (qr (drounds 9 L) 0 4 8 12) 1 5 9 13) 2 6 10 14) 3 7 11 15) 0 5 10 15) 1 6 11 12))) := Lib.hid (by rw [hU]; exact setRow_heap _ _ _ _ _ _ RY.out)
 replace RX : Hid (Blk U78 gx 77 (u32s L)) := Lib.hid (by rw [hU]; exact (setRow_other _ _ _ _ DY.out).trans RX.out)
 replace RZ : Hid (Blk U78 g6 53 _) := Lib.hid (by rw [hU]; exact (setRow_other _ _ _ _ D6.out).trans RZ.out)
 replace BW : Hid (Below gk w U78) := Lib.hid (by rw [hU]; exact below_setRow BW.out LY.out _)
 replace RW := RW'
 clear hU RW'
 clear V
 refine (rqL6 _ _ RW.out).mono ?_
 rintro e V ⟨rfl, hb⟩
 replace BW := Lib.hid (BW.out.trans (hb.mono (by have := RY.out.lt; have := LY.out; omega)))
 replace RY := Lib.hid (RY.out.below hb)
 replace RX := Lib.hid (RX.out.below hb)
 replace RZ := Lib.hid (RZ.out.below hb)
 clear hb
 have RW' := Lib.hid (qr_w16 RW.out 2 7 8 13 (by omega) (by omega) (by omega) (by omega))
 go_wp2_with (first | (refine wpList_store_row rfl 77 _ _ rfl gy _ rfl rfl 77 _ RY.out (i46 _ RW'.out) (s46 RW.out RW'.out) (u32s_one _) ?_) | (refine wpList_load_row rfl 77 _ rfl gy rfl 77 _ (0, 0) _ (setRow_heap _ _ _ _ _ _ RY.out) Tryd.underlying77 rfl (i46 _ RW'.out) ?_))
 obtain ⟨U79, hU⟩ : ∃ U, U = V.setRow gy (u32s (qr (qr (qr (qr (qr (qr (qr (drounds 9 L) 0 4 8 12) 1 5 9 13) 2 6 10 14) 3 7 11 15) 0 5 10 15) 1 6 11 12) 2 7 8 13)) := ⟨_, rfl⟩
 rw [← hU]
 replace RY : Hid (Blk U79 gy 77 (u32s (qr (qr (qr (qr (qr (qr (qr (drounds 9 L) 0 4 8 12) 1 5 9 13) 2 6 10 14) 3 7 11 15) 0 5 10 15) 1 6 11 12) 2 7 8 13))) := Lib.hid (by rw [hU]; exact setRow_heap _ _ _ _ _ _ RY.out)
 replace RX : Hid (Blk U79 gx 77 (u32s L)) := Lib.hid (by rw [hU]; exact (setRow_other _ _ _ _ DY.out).trans RX.out)
 replace RZ : Hid (Blk U79 g6 53 _) := Lib.hid (by rw [hU]; exact (setRow_other _ _ _ _ D6.out).trans RZ.out)
 replace BW : Hid (Below gk w U79) := Lib.hid (by rw [hU]; exact below_setRow BW.out LY.out _)
 replace RW := RW'
 clear hU RW'
 clear V
 refine (rqL7 _ _ RW.out).mono ?_
 rintro e V ⟨rfl, hb⟩
 replace BW := Lib.hid (BW.out.trans (hb.mono (by have := RY.out.lt; have := LY.out; omega)))
 replace RY := Lib.hid (RY.out.below hb)
 replace RX := Lib.hid (RX.out.below hb)
 replace RZ := Lib.hid (RZ.out.below hb)
 clear hb
 have RW' := Lib.hid (qr_w16 RW.out 3 4 9 14 (by omega) (by omega) (by omega) (by omega))
 go_wp2_with (first | (refine wpList_store_row rfl 77 _ _ rfl gy _ rfl rfl 77 _ RY.out (i46 _ RW'.out) (s46 RW.out RW'.out) (u32s_one _) ?_) | (refine wpList_load_row rfl 77 _ rfl gy rfl 77 _ (0, 0) _ (setRow_heap _ _ _ _ _ _ RY.out) Tryd.underlying77 rfl (i46 _ RW'.out) ?_))
 obtain ⟨U80, hU⟩ : ∃ U, U = V.setRow gy (u32s (qr (qr (qr (qr (qr (qr (qr (qr (drounds 9 L) 0 4 8 12) 1 5 9 13) 2 6 10 14) 3 7 11 15) 0 5 10 15) 1 6 11 12) 2 7 8 13) 3 4 9 14)) := ⟨_, rfl⟩
 rw [← hU]
 replace RY : Hid (Blk U80 gy 77 (u32s (qr (qr (qr (qr (qr (qr (qr (qr (drounds 9 L) 0 4 8 12) 1 5 9 13) 2 6 10 14) 3 7 11 15) 0 5 10 15) 1 6 11 12) 2 7 8 13) 3 4 9 14))) := Lib.hid (by rw [hU]; exact setRow_heap _ _ _ _ _ _ RY.out)
 replace RX : Hid (Blk U80 gx 77 (u32s L)) := Lib.hid (by rw [hU]; exact (setRow_other _ _ _ _ DY.out).trans RX.out)
 replace RZ : Hid (Blk U80 g6 53 _) := Lib.hid (by rw [hU]; exact (setRow_other _ _ _ _ D6.out).trans RZ.out)
 replace BW : Hid (Below gk w U80) := Lib.hid (by rw [hU]; exact below_setRow BW.out LY.out _)
 replace RW := RW'
 clear hU RW'
 clear V
 replace RY : Hid (Blk U80 gy 77 (u32s (drounds 10 L))) := RY
 clear RW
 rw [rounds_succ]
 go_wp2_with fail
 have LF : Hid (gx < U80.heap.size) := Lib.hid RX.out.lt
 have L6 : Hid (g6 < U80.heap.size) := Lib.hid RZ.out.lt
 have LYY : Hid (gy < U80.heap.size) := Lib.hid RY.out.lt
 obtain ⟨T0, hU⟩ : ∃ U, U = U80.alloc (.cells #[.int .u8 0, .int .u8 0, .int .u8 0, .int .u8 0, .int .u8 0, .int .u8 0, .int .u8 0, .int .u8 0, .int .u8 0, .int .u8 0, .int .u8 0, .int .u8 0, .int .u8 0, .int .u8 0, .int .u8 0, .int .u8 0, .int .u8 0, .int .u8 0, .int .u8 0, .int .u8 0, .int .u8 0, .int .u8 0, .int .u8 0, .int .u8 0, .int .u8 0, .int .u8 0, .int .u8 0, .int .u8 0, .int .u8 0, .int .u8 0, .int .u8 0, .int .u8 0, .int .u8 0, .int .u8 0, .int .u8 0, .int .u8 0, .int .u8 0, .int .u8 0, .int .u8 0, .int .u8 0, .int .u8 0, .int .u8 0, .int .u8 0, .int .u8 0, .int .u8 0, .int .u8 0, .int .u8 0, .int .u8 0, .int .u8 0, .int .u8 0, .int .u8 0, .int .u8 0, .int .u8 0, .int .u8 0, .int .u8 0, .int .u8 0, .int .u8 0, .int .u8 0, .int .u8 0, .int .u8 0, .int .u8 0, .int .u8 0, .int .u8 0, .int .u8 0] 53) := ⟨_, rfl⟩
 rw [← hU]
 replace RX : Hid (Blk T0 gx 77 (u32s L)) := Lib.hid (by rw [hU]; exact RX.out.alloc _)
 replace RY : Hid (Blk T0 gy 77 (u32s (drounds 10 L))) := Lib.hid (by rw [hU]; exact RY.out.alloc _)
 replace RZ : Hid (Blk T0 g6 53 #[.int .u8 0, .int .u8 0, .int .u8 0, .int .u8 0, .int .u8 0, .int .u8 0, .int .u8 0, .int .u8 0, .int .u8 0, .int .u8 0, .int .u8 0, .int .u8 0, .int .u8 0, .int .u8 0, .int .u8 0, .int .u8 0, .int .u8 0, .int .u8 0, .int .u8 0, .int .u8 0, .int .u8 0, .int .u8 0, .int .u8 0, .int .u8 0, .int .u8 0, .int .u8 0, .int .u8 0, .int .u8 0, .int .u8 0, .int .u8 0, .int .u8 0, .int .u8 0, .int .u8 0, .int .u8 0, .int .u8 0, .int .u8 0, .int .u8 0, .int .u8 0, .int .u8 0, .int .u8 0, .int .u8 0, .int .u8 0, .int .u8 0, .int .u8 0, .int .u8 0, .int .u8 0, .int .u8 0, .int .u8 0, .int .u8 0, .int .u8 0, .int .u8 0, .int .u8 0, .int .u8 0, .int .u8 0, .int .u8 0, .int .u8 0, .int .u8 0, .int .u8 0, .int .u8 0, .int .u8 0, .int .u8 0, .int .u8 0, .int .u8 0, .int .u8 0]) := Lib.hid (by rw [hU]; exact RZ.out.alloc _)
 have LZ : Hid (gk ≤ U80.heap.size) := Lib.hid (by have := LYY.out; have := LY.out; omega)
 replace BW : Hid (Below gk w T0) := Lib.hid (by rw [hU]; exact BW.out.alloc LZ.out _)
 have RO : Hid (Blk T0 U80.heap.size 53 (u8b (obs1 L (drounds 10 L) 0))) := Lib.hid (by rw [hU]; exact Blk.new U80 53 _)
 have WM : Hid (W16 (drounds 10 L)) := Lib.hid (drounds_w16 WF.out 10)
 clear hU
 generalize hM : drounds 10 L = M at *
 have EM := Lib.hid hM
 clear hM
 generalize U80.heap.size = gz at *
 have EX : Hid (gx ≠ gz) := Lib.hid (Nat.ne_of_lt LF.out)
 have EY : Hid (gy ≠ gz) := Lib.hid (Nat.ne_of_lt LYY.out)
 have EO : Hid (g6 ≠ gz) := Lib.hid (Nat.ne_of_lt L6.out)
 clear LF L6 LYY
 have hI : OutR gy gx gz g6 gk L M w 0 T0 := ⟨RY.out, RX.out, RO.out, RZ.out, BW.out⟩
 have HI := Lib.hid hI
 clear hI RY RX RO RZ BW
 go_loopw [13] (fun s13 wr => ∃ k : Nat, k ≤ 64 ∧ s13 = .int .i64 k ∧ Hid (OutR gy gx gz g6 gk L M w k wr)) (fun s13 _ => 64 - (intOf s13).toNat)
 case atStart => exact ⟨0, by omega, rfl, HI⟩
 case round =>
  clear HI
  obtain ⟨k, hk, rfl, RI⟩ := hrel
  rcases (show k = 0 ∨ k = 1 ∨ k = 2 ∨ k = 3 ∨ k = 4 ∨ k = 5 ∨ k = 6 ∨ k = 7 ∨ k = 8 ∨ k = 9 ∨ k = 10 ∨ k = 11 ∨ k = 12 ∨ k = 13 ∨ k = 14 ∨ k = 15 ∨ k = 16 ∨ k = 17 ∨ k = 18 ∨ k = 19 ∨ k = 20 ∨ k = 21 ∨ k = 22 ∨ k = 23 ∨ k = 24 ∨ k = 25 ∨ k = 26 ∨ k = 27 ∨ k = 28 ∨ k = 29 ∨ k = 30 ∨ k = 31 ∨ k = 32 ∨ k = 33 ∨ k = 34 ∨ k = 35 ∨ k = 36 ∨ k = 37 ∨ k = 38 ∨ k = 39 ∨ k = 40 ∨ k = 41 ∨ k = 42 ∨ k = 43 ∨ k = 44 ∨ k = 45 ∨ k = 46 ∨ k = 47 ∨ k = 48 ∨ k = 49 ∨ k = 50 ∨ k = 51 ∨ k = 52 ∨ k = 53 ∨ k = 54 ∨ k = 55 ∨ k = 56 ∨ k = 57 ∨ k = 58 ∨ k = 59 ∨ k = 60 ∨ k = 61 ∨ k = 62 ∨ k = 63 ∨ k = 64 by omega) with rfl | rfl | rfl | rfl | rfl | rfl | rfl | rfl | rfl | rfl | rfl | rfl | rfl | rfl | rfl | rfl | rfl | rfl | rfl | rfl | rfl | rfl | rfl | rfl | rfl | rfl | rfl | rfl | rfl | rfl | rfl | rfl | rfl | rfl | rfl | rfl | rfl | rfl | rfl | rfl | rfl | rfl | rfl | rfl | rfl | rfl | rfl | rfl | rfl | rfl | rfl | rfl | rfl | rfl | rfl | rfl | rfl | rfl | rfl | rfl | rfl | rfl | rfl | rfl | rfl
  ·have c1 : wr.cell? ⟨gy, 0, none⟩ = some (.int .u32 (M.getD 0 0 : Nat)) := RI.out.1.u32 0 (by rw [WM.out.1]; omega)
   have c2 : wr.cell? ⟨gx, 0, none⟩ = some (.int .u32 (L.getD 0 0 : Nat)) := RI.out.2.1.u32 0 (by rw [WF.out.1]; omega)
   generalize hA : M.getD 0 0 = A at c1
   generalize hB : L.getD 0 0 = B at c2
   have EA := Lib.hid hA
   have EB := Lib.hid hB
   clear hA hB
   have rS : ((A : Int) + (B : Int)) % 4294967296 = (((A + B) % 4294967296 : Nat) : Int) := by omega
   generalize hS : (A + B) % 4294967296 = S at rS
   have z0 : wr.cell? ⟨gz, 0, none⟩ = some (.int .u8 0) := RI.out.2.2.1.b8 0 (obs1_zero _ _ _ _ (by omega) (by omega)) rfl
   have f0 : wr.frozen? ⟨gz, 0, none⟩ = false := RI.out.2.2.1.free _
   have ES := Lib.hid hS
   clear hS
   go_wp2_with fail
   go_region
   go_wp2_with fail
   clear c1 c2 rS z0 f0
   go_roundw
   case rel => exact ⟨1, by omega, rfl, Lib.hid (OutR.next 0 RI.out EY.out EX.out EO.out LZ.out _ (ob0 L M 0 S (by rw [EA.out, EB.out]; exact ES.out)))⟩
   case measure => simp [intOf]
  ·have c1 : wr.cell? ⟨gy, 0, none⟩ = some (.int .u32 (M.getD 0 0 : Nat)) := RI.out.1.u32 0 (by rw [WM.out.1]; omega)
   have c2 : wr.cell? ⟨gx, 0, none⟩ = some (.int .u32 (L.getD 0 0 : Nat)) := RI.out.2.1.u32 0 (by rw [WF.out.1]; omega)
   generalize hA : M.getD 0 0 = A at c1
   generalize hB : L.getD 0 0 = B at c2
   have EA := Lib.hid hA
   have EB := Lib.hid hB
   clear hA hB
   have rS : ((A : Int) + (B : Int)) % 4294967296 = (((A + B) % 4294967296 : Nat) : Int) := by omega
   generalize hS : (A + B) % 4294967296 = S at rS
   have z0 : wr.cell? ⟨gz, 1, none⟩ = some (.int .u8 0) := RI.out.2.2.1.b8 1 (obs1_zero _ _ _ _ (by omega) (by omega)) rfl
   have f0 : wr.frozen? ⟨gz, 1, none⟩ = false := RI.out.2.2.1.free _
   have ES := Lib.hid hS
   clear hS
   go_wp2_with fail
   go_region
   go_wp2_with fail
   clear c1 c2 rS z0 f0
   go_roundw
   case rel => exact ⟨2, by omega, rfl, Lib.hid (OutR.next 1 RI.out EY.out EX.out EO.out LZ.out _ (ob1 L M 0 S (by rw [EA.out, EB.out]; exact ES.out)))⟩
   case measure => simp [intOf]
  ·have c1 : wr.cell? ⟨gy, 0, none⟩ = some (.int .u32 (M.getD 0 0 : Nat)) := RI.out.1.u32 0 (by rw [WM.out.1]; omega)
   have c2 : wr.cell? ⟨gx, 0, none⟩ = some (.int .u32 (L.getD 0 0 : Nat)) := RI.out.2.1.u32 0 (by rw [WF.out.1]; omega)
   generalize hA : M.getD 0 0 = A at c1
   generalize hB : L.getD 0 0 = B at c2
   have EA := Lib.hid hA
   have EB := Lib.hid hB
   clear hA hB
   have rS : ((A : Int) + (B : Int)) % 4294967296 = (((A + B) % 4294967296 : Nat) : Int) := by omega
   generalize hS : (A + B) % 4294967296 = S at rS
   have z0 : wr.cell? ⟨gz, 2, none⟩ = some (.int .u8 0) := RI.out.2.2.1.b8 2 (obs1_zero _ _ _ _ (by omega) (by omega)) rfl
   have f0 : wr.frozen? ⟨gz, 2, none⟩ = false := RI.out.2.2.1.free _
   have ES := Lib.hid hS
   clear hS
   go_wp2_with fail
   go_region
   go_wp2_with fail
   clear c1 c2 rS z0 f0
   go_roundw
   case rel => exact ⟨3, by omega, rfl, Lib.hid (OutR.next 2 RI.out EY.out EX.out EO.out LZ.out _ (ob2 L M 0 S (by rw [EA.out, EB.out]; exact ES.out)))⟩
   case measure => simp [intOf]
  ·have c1 : wr.cell? ⟨gy, 0, none⟩ = some (.int .u32 (M.getD 0 0 : Nat)) := RI.out.1.u32 0 (by rw [WM.out.1]; omega)
   have c2 : wr.cell? ⟨gx, 0, none⟩ = some (.int .u32 (L.getD 0 0 : Nat)) := RI.out.2.1.u32 0 (by rw [WF.out.1]; omega)
   generalize hA : M.getD 0 0 = A at c1
   generalize hB : L.getD 0 0 = B at c2
   have EA := Lib.hid hA
   have EB := Lib.hid hB
   clear hA hB
   have rS : ((A : Int) + (B : Int)) % 4294967296 = (((A + B) % 4294967296 : Nat) : Int) := by omega
   generalize hS : (A + B) % 4294967296 = S at rS
   have z0 : wr.cell? ⟨gz, 3, none⟩ = some (.int .u8 0) := RI.out.2.2.1.b8 3 (obs1_zero _ _ _ _ (by omega) (by omega)) rfl
   have f0 : wr.frozen? ⟨gz, 3, none⟩ = false := RI.out.2.2.1.free _
   have ES := Lib.hid hS
   clear hS
   go_wp2_with fail
   go_region
   go_wp2_with fail
   clear c1 c2 rS z0 f0
   go_roundw
   case rel => exact ⟨4, by omega, rfl, Lib.hid (OutR.next 3 RI.out EY.out EX.out EO.out LZ.out _ (ob3 L M 0 S (by rw [EA.out, EB.out]; exact ES.out)))⟩
   case measure => simp [intOf]
  ·have c1 : wr.cell? ⟨gy, 1, none⟩ = some (.int .u32 (M.getD 1 0 : Nat)) := RI.out.1.u32 1 (by rw [WM.out.1]; omega)
   have c2 : wr.cell? ⟨gx, 1, none⟩ = some (.int .u32 (L.getD 1 0 : Nat)) := RI.out.2.1.u32 1 (by rw [WF.out.1]; omega)
   generalize hA : M.getD 1 0 = A at c1
   generalize hB : L.getD 1 0 = B at c2
   have EA := Lib.hid hA
   have EB := Lib.hid hB
   clear hA hB
   have rS : ((A : Int) + (B : Int)) % 4294967296 = (((A + B) % 4294967296 : Nat) : Int) := by omega
   generalize hS : (A + B) % 4294967296 = S at rS
   have z0 : wr.cell? ⟨gz, 4, none⟩ = some (.int .u8 0) := RI.out.2.2.1.b8 4 (obs1_zero _ _ _ _ (by omega) (by omega)) rfl
   have f0 : wr.frozen? ⟨gz, 4, none⟩ = false := RI.out.2.2.1.free _
   have ES := Lib.hid hS
   clear hS
   go_wp2_with fail
   go_region
   go_wp2_with fail
   clear c1 c2 rS z0 f0
   go_roundw
   case rel => exact ⟨5, by omega, rfl, Lib.hid (OutR.next 4 RI.out EY.out EX.out EO.out LZ.out _ (ob0 L M 1 S (by rw [EA.out, EB.out]; exact ES.out)))⟩
   case measure => simp [intOf]
  ·have c1 : wr.cell? ⟨gy, 1, none⟩ = some (.int .u32 (M.getD 1 0 : Nat)) := RI.out.1.u32 1 (by rw [WM.out.1]; omega)
   have c2 : wr.cell? ⟨gx, 1, none⟩ = some (.int .u32 (L.getD 1 0 : Nat)) := RI.out.2.1.u32 1 (by rw [WF.out.1]; omega)
   generalize hA : M.getD 1 0 = A at c1
   generalize hB : L.getD 1 0 = B at c2
   have EA := Lib.hid hA
   have EB := Lib.hid hB
   clear hA hB
   have rS : ((A : Int) + (B : Int)) % 4294967296 = (((A + B) % 4294967296 : Nat) : Int) := by omega
   generalize hS : (A + B) % 4294967296 = S at rS
   have z0 : wr.cell? ⟨gz, 5, none⟩ = some (.int .u8 0) := RI.out.2.2.1.b8 5 (obs1_zero _ _ _ _ (by omega) (by omega)) rfl
   have f0 : wr.frozen? ⟨gz, 5, none⟩ = false := RI.out.2.2.1.free _
   have ES := Lib.hid hS
   clear hS
   go_wp2_with fail
   go_region
   go_wp2_with fail
   clear c1 c2 rS z0 f0
   go_roundw
   case rel => exact ⟨6, by omega, rfl, Lib.hid (OutR.next 5 RI.out EY.out EX.out EO.out LZ.out _ (ob1 L M 1 S (by rw [EA.out, EB.out]; exact ES.out)))⟩
   case measure => simp [intOf]
  ·have c1 : wr.cell? ⟨gy, 1, none⟩ = some (.int .u32 (M.getD 1 0 : Nat)) := RI.out.1.u32 1 (by rw [WM.out.1]; omega)
   have c2 : wr.cell? ⟨gx, 1, none⟩ = some (.int .u32 (L.getD 1 0 : Nat)) := RI.out.2.1.u32 1 (by rw [WF.out.1]; omega)
   generalize hA : M.getD 1 0 = A at c1
   generalize hB : L.getD 1 0 = B at c2
   have EA := Lib.hid hA
   have EB := Lib.hid hB
   clear hA hB
   have rS : ((A : Int) + (B : Int)) % 4294967296 = (((A + B) % 4294967296 : Nat) : Int) := by omega
   generalize hS : (A + B) % 4294967296 = S at rS
   have z0 : wr.cell? ⟨gz, 6, none⟩ = some (.int .u8 0) := RI.out.2.2.1.b8 6 (obs1_zero _ _ _ _ (by omega) (by omega)) rfl
   have f0 : wr.frozen? ⟨gz, 6, none⟩ = false := RI.out.2.2.1.free _
   have ES := Lib.hid hS
   clear hS
   go_wp2_with fail
   go_region
   go_wp2_with fail
   clear c1 c2 rS z0 f0
   go_roundw
   case rel => exact ⟨7, by omega, rfl, Lib.hid (OutR.next 6 RI.out EY.out EX.out EO.out LZ.out _ (ob2 L M 1 S (by rw [EA.out, EB.out]; exact ES.out)))⟩
   case measure => simp [intOf]
  ·have c1 : wr.cell? ⟨gy, 1, none⟩ = some (.int .u32 (M.getD 1 0 : Nat)) := RI.out.1.u32 1 (by rw [WM.out.1]; omega)
   have c2 : wr.cell? ⟨gx, 1, none⟩ = some (.int .u32 (L.getD 1 0 : Nat)) := RI.out.2.1.u32 1 (by rw [WF.out.1]; omega)
   generalize hA : M.getD 1 0 = A at c1
   generalize hB : L.getD 1 0 = B at c2
   have EA := Lib.hid hA
   have EB := Lib.hid hB
   clear hA hB
   have rS : ((A : Int) + (B : Int)) % 4294967296 = (((A + B) % 4294967296 : Nat) : Int) := by omega
   generalize hS : (A + B) % 4294967296 = S at rS
   have z0 : wr.cell? ⟨gz, 7, none⟩ = some (.int .u8 0) := RI.out.2.2.1.b8 7 (obs1_zero _ _ _ _ (by omega) (by omega)) rfl
   have f0 : wr.frozen? ⟨gz, 7, none⟩ = false := RI.out.2.2.1.free _
   have ES := Lib.hid hS
   clear hS
   go_wp2_with fail
   go_region
   go_wp2_with fail
   clear c1 c2 rS z0 f0
   go_roundw
   case rel => exact ⟨8, by omega, rfl, Lib.hid (OutR.next 7 RI.out EY.out EX.out EO.out LZ.out _ (ob3 L M 1 S (by rw [EA.out, EB.out]; exact ES.out)))⟩
   case measure => simp [intOf]
  ·have c1 : wr.cell? ⟨gy, 2, none⟩ = some (.int .u32 (M.getD 2 0 : Nat)) := RI.out.1.u32 2 (by rw [WM.out.1]; omega)
   have c2 : wr.cell? ⟨gx, 2, none⟩ = some (.int .u32 (L.getD 2 0 : Nat)) := RI.out.2.1.u32 2 (by rw [WF.out.1]; omega)
   generalize hA : M.getD 2 0 = A at c1
   generalize hB : L.getD 2 0 = B at c2
   have EA := Lib.hid hA
   have EB := Lib.hid hB
   clear hA hB
   have rS : ((A : Int) + (B : Int)) % 4294967296 = (((A + B) % 4294967296 : Nat) : Int) := by omega
   generalize hS : (A + B) % 4294967296 = S at rS
   have z0 : wr.cell? ⟨gz, 8, none⟩ = some (.int .u8 0) := RI.out.2.2.1.b8 8 (obs1_zero _ _ _ _ (by omega) (by omega)) rfl
   have f0 : wr.frozen? ⟨gz, 8, none⟩ = false := RI.out.2.2.1.free _
   have ES := Lib.hid hS
   clear hS
   go_wp2_with fail
   go_region
   go_wp2_with fail
   clear c1 c2 rS z0 f0
   go_roundw
   case rel => exact ⟨9, by omega, rfl, Lib.hid (OutR.next 8 RI.out EY.out EX.out EO.out LZ.out _ (ob0 L M 2 S (by rw [EA.out, EB.out]; exact ES.out)))⟩
   case measure => simp [intOf]
  ·have c1 : wr.cell? ⟨gy, 2, none⟩ = some (.int .u32 (M.getD 2 0 : Nat)) := RI.out.1.u32 2 (by rw [WM.out.1]; omega)
   have c2 : wr.cell? ⟨gx, 2, none⟩ = some (.int .u32 (L.getD 2 0 : Nat)) := RI.out.2.1.u32 2 (by rw [WF.out.1]; omega)
   generalize hA : M.getD 2 0 = A at c1
   generalize hB : L.getD 2 0 = B at c2
   have EA := Lib.hid hA
   have EB := Lib.hid hB
   clear hA hB
   have rS : ((A : Int) + (B : Int)) % 4294967296 = (((A + B) % 4294967296 : Nat) : Int) := by omega
   generalize hS : (A + B) % 4294967296 = S at rS
   have z0 : wr.cell? ⟨gz, 9, none⟩ = some (.int .u8 0) := RI.out.2.2.1.b8 9 (obs1_zero _ _ _ _ (by omega) (by omega)) rfl
   have f0 : wr.frozen? ⟨gz, 9, none⟩ = false := RI.out.2.2.1.free _
   have ES := Lib.hid hS
   clear hS
   go_wp2_with fail
   go_region
   go_wp2_with fail
   clear c1 c2 rS z0 f0
   go_roundw
   case rel => exact ⟨10, by omega, rfl, Lib.hid (OutR.next 9 RI.out EY.out EX.out EO.out LZ.out _ (ob1 L M 2 S (by rw [EA.out, EB.out]; exact ES.out)))⟩
   case measure => simp [intOf]
  ·have c1 : wr.cell? ⟨gy, 2, none⟩ = some (.int .u32 (M.getD 2 0 : Nat)) := RI.out.1.u32 2 (by rw [WM.out.1]; omega)
   have c2 : wr.cell? ⟨gx, 2, none⟩ = some (.int .u32 (L.getD 2 0 : Nat)) := RI.out.2.1.u32 2 (by rw [WF.out.1]; omega)
   generalize hA : M.getD 2 0 = A at c1
   generalize hB : L.getD 2 0 = B at c2
   have EA := Lib.hid hA
   have EB := Lib.hid hB
   clear hA hB
   have rS : ((A : Int) + (B : Int)) % 4294967296 = (((A + B) % 4294967296 : Nat) : Int) := by omega
   generalize hS : (A + B) % 4294967296 = S at rS
   have z0 : wr.cell? ⟨gz, 10, none⟩ = some (.int .u8 0) := RI.out.2.2.1.b8 10 (obs1_zero _ _ _ _ (by omega) (by omega)) rfl
   have f0 : wr.frozen? ⟨gz, 10, none⟩ = false := RI.out.2.2.1.free _
   have ES := Lib.hid hS
   clear hS
   go_wp2_with fail
   go_region
   go_wp2_with fail
   clear c1 c2 rS z0 f0
   go_roundw
   case rel => exact ⟨11, by omega, rfl, Lib.hid (OutR.next 10 RI.out EY.out EX.out EO.out LZ.out _ (ob2 L M 2 S (by rw [EA.out, EB.out]; exact ES.out)))⟩
   case measure => simp [intOf]
  ·have c1 : wr.cell? ⟨gy, 2, none⟩ = some (.int .u32 (M.getD 2 0 : Nat)) := RI.out.1.u32 2 (by rw [WM.out.1]; omega)
   have c2 : wr.cell? ⟨gx, 2, none⟩ = some (.int .u32 (L.getD 2 0 : Nat)) := RI.out.2.1.u32 2 (by rw [WF.out.1]; omega)
   generalize hA : M.getD 2 0 = A at c1
   generalize hB : L.getD 2 0 = B at c2
   have EA := Lib.hid hA
   have EB := Lib.hid hB
   clear hA hB
   have rS : ((A : Int) + (B : Int)) % 4294967296 = (((A + B) % 4294967296 : Nat) : Int) := by omega
   generalize hS : (A + B) % 4294967296 = S at rS
   have z0 : wr.cell? ⟨gz, 11, none⟩ = some (.int .u8 0) := RI.out.2.2.1.b8 11 (obs1_zero _ _ _ _ (by omega) (by omega)) rfl
   have f0 : wr.frozen? ⟨gz, 11, none⟩ = false := RI.out.2.2.1.free _
   have ES := Lib.hid hS
   clear hS
   go_wp2_with fail
   go_region
   go_wp2_with fail
   clear c1 c2 rS z0 f0
   go_roundw
   case rel => exact ⟨12, by omega, rfl, Lib.hid (OutR.next 11 RI.out EY.out EX.out EO.out LZ.out _ (ob3 L M 2 S (by rw [EA.out, EB.out]; exact ES.out)))⟩
   case measure => simp [intOf]
  ·have c1 : wr.cell? ⟨gy, 3, none⟩ = some (.int .u32 (M.getD 3 0 : Nat)) := RI.out.1.u32 3 (by rw [WM.out.1]; omega)
   have c2 : wr.cell? ⟨gx, 3, none⟩ = some (.int .u32 (L.getD 3 0 : Nat)) := RI.out.2.1.u32 3 (by rw [WF.out.1]; omega)
   generalize hA : M.getD 3 0 = A at c1
   generalize hB : L.getD 3 0 = B at c2
   have EA := Lib.hid hA
   have EB := Lib.hid hB
   clear hA hB
   have rS : ((A : Int) + (B : Int)) % 4294967296 = (((A + B) % 4294967296 : Nat) : Int) := by omega
   generalize hS : (A + B) % 4294967296 = S at rS
   have z0 : wr.cell? ⟨gz, 12, none⟩ = some (.int .u8 0) := RI.out.2.2.1.b8 12 (obs1_zero _ _ _ _ (by omega) (by omega)) rfl
   have f0 : wr.frozen? ⟨gz, 12, none⟩ = false := RI.out.2.2.1.free _
   have ES := Lib.hid hS
   clear hS
   go_wp2_with fail
   go_region
   go_wp2_with fail
   clear c1 c2 rS z0 f0
   go_roundw
   case rel => exact ⟨13, by omega, rfl, Lib.hid (OutR.next 12 RI.out EY.out EX.out EO.out LZ.out _ (ob0 L M 3 S (by rw [EA.out, EB.out]; exact ES.out)))⟩
   case measure => simp [intOf]
  ·have c1 : wr.cell? ⟨gy, 3, none⟩ = some (.int .u32 (M.getD 3 0 : Nat)) := RI.out.1.u32 3 (by rw [WM.out.1]; omega)
   have c2 : wr.cell? ⟨gx, 3, none⟩ = some (.int .u32 (L.getD 3 0 : Nat)) := RI.out.2.1.u32 3 (by rw [WF.out.1]; omega)
   generalize hA : M.getD 3 0 = A at c1
   generalize hB : L.getD 3 0 = B at c2
   have EA := Lib.hid hA
   have EB := Lib.hid hB
   clear hA hB
   have rS : ((A : Int) + (B : Int)) % 4294967296 = (((A + B) % 4294967296 : Nat) : Int) := by omega
   generalize hS : (A + B) % 4294967296 = S at rS
   have z0 : wr.cell? ⟨gz, 13, none⟩ = some (.int .u8 0) := RI.out.2.2.1.b8 13 (obs1_zero _ _ _ _ (by omega) (by omega)) rfl
   have f0 : wr.frozen? ⟨gz, 13, none⟩ = false := RI.out.2.2.1.free _
   have ES := Lib.hid hS
   clear hS
   go_wp2_with fail
   go_region
   go_wp2_with fail
   clear c1 c2 rS z0 f0
   go_roundw
   case rel => exact ⟨14, by omega, rfl, Lib.hid (OutR.next 13 RI.out EY.out EX.out EO.out LZ.out _ (ob1 L M 3 S (by rw [EA.out, EB.out]; exact ES.out)))⟩
   case measure => simp [intOf]
  ·have c1 : wr.cell? ⟨gy, 3, none⟩ = some (.int .u32 (M.getD 3 0 : Nat)) := RI.out.1.u32 3 (by rw [WM.out.1]; omega)
   have c2 : wr.cell? ⟨gx, 3, none⟩ = some (.int .u32 (L.getD 3 0 : Nat)) := RI.out.2.1.u32 3 (by rw [WF.out.1]; omega)
   generalize hA : M.getD 3 0 = A at c1
   generalize hB : L.getD 3 0 = B at c2
   have EA := Lib.hid hA
   have EB := Lib.hid hB
   clear hA hB
   have rS : ((A : Int) + (B : Int)) % 4294967296 = (((A + B) % 4294967296 : Nat) : Int) := by omega
   generalize hS : (A + B) % 4294967296 = S at rS
   have z0 : wr.cell? ⟨gz, 14, none⟩ = some (.int .u8 0) := RI.out.2.2.1.b8 14 (obs1_zero _ _ _ _ (by omega) (by omega)) rfl
   have f0 : wr.frozen? ⟨gz, 14, none⟩ = false := RI.out.2.2.1.free _
   have ES := Lib.hid hS
   clear hS
   go_wp2_with fail
   go_region
   go_wp2_with fail
   clear c1 c2 rS z0 f0
   go_roundw
   case rel => exact ⟨15, by omega, rfl, Lib.hid (OutR.next 14 RI.out EY.out EX.out EO.out LZ.out _ (ob2 L M 3 S (by rw [EA.out, EB.out]; exact ES.out)))⟩
   case measure => simp [intOf]
  ·have c1 : wr.cell? ⟨gy, 3, none⟩ = some (.int .u32 (M.getD 3 0 : Nat)) := RI.out.1.u32 3 (by rw [WM.out.1]; omega)
   have c2 : wr.cell? ⟨gx, 3, none⟩ = some (.int .u32 (L.getD 3 0 : Nat)) := RI.out.2.1.u32 3 (by rw [WF.out.1]; omega)
   generalize hA : M.getD 3 0 = A at c1
   generalize hB : L.getD 3 0 = B at c2
   have EA := Lib.hid hA
   have EB := Lib.hid hB
   clear hA hB
   have rS : ((A : Int) + (B : Int)) % 4294967296 = (((A + B) % 4294967296 : Nat) : Int) := by omega
   generalize hS : (A + B) % 4294967296 = S at rS
   have z0 : wr.cell? ⟨gz, 15, none⟩ = some (.int .u8 0) := RI.out.2.2.1.b8 15 (obs1_zero _ _ _ _ (by omega) (by omega)) rfl
   have f0 : wr.frozen? ⟨gz, 15, none⟩ = false := RI.out.2.2.1.free _
   have ES := Lib.hid hS
   clear hS
   go_wp2_with fail
   go_region
   go_wp2_with fail
   clear c1 c2 rS z0 f0
   go_roundw
   case rel => exact ⟨16, by omega, rfl, Lib.hid (OutR.next 15 RI.out EY.out EX.out EO.out LZ.out _ (ob3 L M 3 S (by rw [EA.out, EB.out]; exact ES.out)))⟩
   case measure => simp [intOf]
  ·have c1 : wr.cell? ⟨gy, 4, none⟩ = some (.int .u32 (M.getD 4 0 : Nat)) := RI.out.1.u32 4 (by rw [WM.out.1]; omega)
   have c2 : wr.cell? ⟨gx, 4, none⟩ = some (.int .u32 (L.getD 4 0 : Nat)) := RI.out.2.1.u32 4 (by rw [WF.out.1]; omega)
   generalize hA : M.getD 4 0 = A at c1
   generalize hB : L.getD 4 0 = B at c2
   have EA := Lib.hid hA
   have EB := Lib.hid hB
   clear hA hB
   have rS : ((A : Int) + (B : Int)) % 4294967296 = (((A + B) % 4294967296 : Nat) : Int) := by omega
   generalize hS : (A + B) % 4294967296 = S at rS
   have z0 : wr.cell? ⟨gz, 16, none⟩ = some (.int .u8 0) := RI.out.2.2.1.b8 16 (obs1_zero _ _ _ _ (by omega) (by omega)) rfl
   have f0 : wr.frozen? ⟨gz, 16, none⟩ = false := RI.out.2.2.1.free _
   have ES := Lib.hid hS
   clear hS
   go_wp2_with fail
   go_region
   go_wp2_with fail
   clear c1 c2 rS z0 f0
   go_roundw
   case rel => exact ⟨17, by omega, rfl, Lib.hid (OutR.next 16 RI.out EY.out EX.out EO.out LZ.out _ (ob0 L M 4 S (by rw [EA.out, EB.out]; exact ES.out)))⟩
   case measure => simp [intOf]
  ·have c1 : wr.cell? ⟨gy, 4, none⟩ = some (.int .u32 (M.getD 4 0 : Nat)) := RI.out.1.u32 4 (by rw [WM.out.1]; omega)
   have c2 : wr.cell? ⟨gx, 4, none⟩ = some (.int .u32 (L.getD 4 0 : Nat)) := RI.out.2.1.u32 4 (by rw [WF.out.1]; omega)
   generalize hA : M.getD 4 0 = A at c1
   generalize hB : L.getD 4 0 = B at c2
   have EA := Lib.hid hA
   have EB := Lib.hid hB
   clear hA hB
   have rS : ((A : Int) + (B : Int)) % 4294967296 = (((A + B) % 4294967296 : Nat) : Int) := by omega
   generalize hS : (A + B) % 4294967296 = S at rS
   have z0 : wr.cell? ⟨gz, 17, none⟩ = some (.int .u8 0) := RI.out.2.2.1.b8 17 (obs1_zero _ _ _ _ (by omega) (by omega)) rfl
   have f0 : wr.frozen? ⟨gz, 17, none⟩ = false := RI.out.2.2.1.free _
   have ES := Lib.hid hS
   clear hS
   go_wp2_with fail
   go_region
   go_wp2_with fail
   clear c1 c2 rS z0 f0
   go_roundw
   case rel => exact ⟨18, by omega, rfl, Lib.hid (OutR.next 17 RI.out EY.out EX.out EO.out LZ.out _ (ob1 L M 4 S (by rw [EA.out, EB.out]; exact ES.out)))⟩
   case measure => simp [intOf]
  ·have c1 : wr.cell? ⟨gy, 4, none⟩ = some (.int .u32 (M.getD 4 0 : Nat)) := RI.out.1.u32 4 (by rw [WM.out.1]; omega)
   have c2 : wr.cell? ⟨gx, 4, none⟩ = some (.int .u32 (L.getD 4 0 : Nat)) := RI.out.2.1.u32 4 (by rw [WF.out.1]; omega)
   generalize hA : M.getD 4 0 = A at c1
   generalize hB : L.getD 4 0 = B at c2
   have EA := Lib.hid hA
   have EB := Lib.hid hB
   clear hA hB
   have rS : ((A : Int) + (B : Int)) % 4294967296 = (((A + B) % 4294967296 : Nat) : Int) := by omega
   generalize hS : (A + B) % 4294967296 = S at rS
   have z0 : wr.cell? ⟨gz, 18, none⟩ = some (.int .u8 0) := RI.out.2.2.1.b8 18 (obs1_zero _ _ _ _ (by omega) (by omega)) rfl
   have f0 : wr.frozen? ⟨gz, 18, none⟩ = false := RI.out.2.2.1.free _
   have ES := Lib.hid hS
   clear hS
   go_wp2_with fail
   go_region
   go_wp2_with fail
   clear c1 c2 rS z0 f0
   go_roundw
   case rel => exact ⟨19, by omega, rfl, Lib.hid (OutR.next 18 RI.out EY.out EX.out EO.out LZ.out _ (ob2 L M 4 S (by rw [EA.out, EB.out]; exact ES.out)))⟩
   case measure => simp [intOf]
  ·have c1 : wr.cell? ⟨gy, 4, none⟩ = some (.int .u32 (M.getD 4 0 : Nat)) := RI.out.1.u32 4 (by rw [WM.out.1]; omega)
   have c2 : wr.cell? ⟨gx, 4, none⟩ = some (.int .u32 (L.getD 4 0 : Nat)) := RI.out.2.1.u32 4 (by rw [WF.out.1]; omega)
   generalize hA : M.getD 4 0 = A at c1
   generalize hB : L.getD 4 0 = B at c2
   have EA := Lib.hid hA
   have EB := Lib.hid hB
   clear hA hB
   have rS : ((A : Int) + (B : Int)) % 4294967296 = (((A + B) % 4294967296 : Nat) : Int) := by omega
   generalize hS : (A + B) % 4294967296 = S at rS
   have z0 : wr.cell? ⟨gz, 19, none⟩ = some (.int .u8 0) := RI.out.2.2.1.b8 19 (obs1_zero _ _ _ _ (by omega) (by omega)) rfl
   have f0 : wr.frozen? ⟨gz, 19, none⟩ = false := RI.out.2.2.1.free _
   have ES := Lib.hid hS
   clear hS
   go_wp2_with fail
   go_region
   go_wp2_with fail
   clear c1 c2 rS z0 f0
   go_roundw
   case rel => exact ⟨20, by omega, rfl, Lib.hid (OutR.next 19 RI.out EY.out EX.out EO.out LZ.out _ (ob3 L M 4 S (by rw [EA.out, EB.out]; exact ES.out)))⟩
   case measure => simp [intOf]
  ·have c1 : wr.cell? ⟨gy, 5, none⟩ = some (.int .u32 (M.getD 5 0 : Nat)) := RI.out.1.u32 5 (by rw [WM.out.1]; omega)
   have c2 : wr.cell? ⟨gx, 5, none⟩ = some (.int .u32 (L.getD 5 0 : Nat)) := RI.out.2.1.u32 5 (by rw [WF.out.1]; omega)
   generalize hA : M.getD 5 0 = A at c1
   generalize hB : L.getD 5 0 = B at c2
   have EA := Lib.hid hA
   have EB := Lib.hid hB
   clear hA hB
   have rS : ((A : Int) + (B : Int)) % 4294967296 = (((A + B) % 4294967296 : Nat) : Int) := by omega
   generalize hS : (A + B) % 4294967296 = S at rS
   have z0 : wr.cell? ⟨gz, 20, none⟩ = some (.int .u8 0) := RI.out.2.2.1.b8 20 (obs1_zero _ _ _ _ (by omega) (by omega)) rfl
   have f0 : wr.frozen? ⟨gz, 20, none⟩ = false := RI.out.2.2.1.free _
   have ES := Lib.hid hS
   clear hS
   go_wp2_with fail
   go_region
   go_wp2_with fail
   clear c1 c2 rS z0 f0
   go_roundw
   case rel => exact ⟨21, by omega, rfl, Lib.hid (OutR.next 20 RI.out EY.out EX.out EO.out LZ.out _ (ob0 L M 5 S (by rw [EA.out, EB.out]; exact ES.out)))⟩
   case measure => simp [intOf]
  ·have c1 : wr.cell? ⟨gy, 5, none⟩ = some (.int .u32 (M.getD 5 0 : Nat)) := RI.out.1.u32 5 (by rw [WM.out.1]; omega)
   have c2 : wr.cell? ⟨gx, 5, none⟩ = some (.int .u32 (L.getD 5 0 : Nat)) := RI.out.2.1.u32 5 (by rw [WF.out.1]; omega)
   generalize hA : M.getD 5 0 = A at c1
   generalize hB : L.getD 5 0 = B at c2
   have EA := Lib.hid hA
   have EB := Lib.hid hB
   clear hA hB
   have rS : ((A : Int) + (B : Int)) % 4294967296 = (((A + B) % 4294967296 : Nat) : Int) := by omega
   generalize hS : (A + B) % 4294967296 = S at rS
   have z0 : wr.cell? ⟨gz, 21, none⟩ = some (.int .u8 0) := RI.out.2.2.1.b8 21 (obs1_zero _ _ _ _ (by omega) (by omega)) rfl
   have f0 : wr.frozen? ⟨gz, 21, none⟩ = false := RI.out.2.2.1.free _
   have ES := Lib.hid hS
   clear hS
   go_wp2_with fail
   go_region
   go_wp2_with fail
   clear c1 c2 rS z0 f0
   go_roundw
   case rel => exact ⟨22, by omega, rfl, Lib.hid (OutR.next 21 RI.out EY.out EX.out EO.out LZ.out _ (ob1 L M 5 S (by rw [EA.out, EB.out]; exact ES.out)))⟩
   case measure => simp [intOf]
  ·have c1 : wr.cell? ⟨gy, 5, none⟩ = some (.int .u32 (M.getD 5 0 : Nat)) := RI.out.1.u32 5 (by rw [WM.out.1]; omega)
   have c2 : wr.cell? ⟨gx, 5, none⟩ = some (.int .u32 (L.getD 5 0 : Nat)) := RI.out.2.1.u32 5 (by rw [WF.out.1]; omega)
   generalize hA : M.getD 5 0 = A at c1
   generalize hB : L.getD 5 0 = B at c2
   have EA := Lib.hid hA
   have EB := Lib.hid hB
   clear hA hB
   have rS : ((A : Int) + (B : Int)) % 4294967296 = (((A + B) % 4294967296 : Nat) : Int) := by omega
   generalize hS : (A + B) % 4294967296 = S at rS
   have z0 : wr.cell? ⟨gz, 22, none⟩ = some (.int .u8 0) := RI.out.2.2.1.b8 22 (obs1_zero _ _ _ _ (by omega) (by omega)) rfl
   have f0 : wr.frozen? ⟨gz, 22, none⟩ = false := RI.out.2.2.1.free _
   have ES := Lib.hid hS
   clear hS
   go_wp2_with fail
   go_region
   go_wp2_with fail
   clear c1 c2 rS z0 f0
   go_roundw
   case rel => exact ⟨23, by omega, rfl, Lib.hid (OutR.next 22 RI.out EY.out EX.out EO.out LZ.out _ (ob2 L M 5 S (by rw [EA.out, EB.out]; exact ES.out)))⟩
   case measure => simp [intOf]
  ·have c1 : wr.cell? ⟨gy, 5, none⟩ = some (.int .u32 (M.getD 5 0 : Nat)) := RI.out.1.u32 5 (by rw [WM.out.1]; omega)
   have c2 : wr.cell? ⟨gx, 5, none⟩ = some (.int .u32 (L.getD 5 0 : Nat)) := RI.out.2.1.u32 5 (by rw [WF.out.1]; omega)
   generalize hA : M.getD 5 0 = A at c1
   generalize hB : L.getD 5 0 = B at c2
   have EA := Lib.hid hA
   have EB := Lib.hid hB
   clear hA hB
   have rS : ((A : Int) + (B : Int)) % 4294967296 = (((A + B) % 4294967296 : Nat) : Int) := by omega
   generalize hS : (A + B) % 4294967296 = S at rS
   have z0 : wr.cell? ⟨gz, 23, none⟩ = some (.int .u8 0) := RI.out.2.2.1.b8 23 (obs1_zero _ _ _ _ (by omega) (by omega)) rfl
   have f0 : wr.frozen? ⟨gz, 23, none⟩ = false := RI.out.2.2.1.free _
   have ES := Lib.hid hS
   clear hS
   go_wp2_with fail
   go_region
   go_wp2_with fail
   clear c1 c2 rS z0 f0
   go_roundw
   case rel => exact ⟨24, by omega, rfl, Lib.hid (OutR.next 23 RI.out EY.out EX.out EO.out LZ.out _ (ob3 L M 5 S (by rw [EA.out, EB.out]; exact ES.out)))⟩
   case measure => simp [intOf]
  ·have c1 : wr.cell? ⟨gy, 6, none⟩ = some (.int .u32 (M.getD 6 0 : Nat)) := RI.out.1.u32 6 (by rw [WM.out.1]; omega)
   have c2 : wr.cell? ⟨gx, 6, none⟩ = some (.int .u32 (L.getD 6 0 : Nat)) := RI.out.2.1.u32 6 (by rw [WF.out.1]; omega)
   generalize hA : M.getD 6 0 = A at c1
   generalize hB : L.getD 6 0 = B at c2
   have EA := Lib.hid hA
   have EB := Lib.hid hB
   clear hA hB
   have rS : ((A : Int) + (B : Int)) % 4294967296 = (((A + B) % 4294967296 : Nat) : Int) := by omega
   generalize hS : (A + B) % 4294967296 = S at rS
   have z0 : wr.cell? ⟨gz, 24, none⟩ = some (.int .u8 0) := RI.out.2.2.1.b8 24 (obs1_zero _ _ _ _ (by omega) (by omega)) rfl
   have f0 : wr.frozen? ⟨gz, 24, none⟩ = false := RI.out.2.2.1.free _
   have ES := Lib.hid hS
   clear hS
   go_wp2_with fail
   go_region
   go_wp2_with fail
   clear c1 c2 rS z0 f0
   go_roundw
   case rel => exact ⟨25, by omega, rfl, Lib.hid (OutR.next 24 RI.out EY.out EX.out EO.out LZ.out _ (ob0 L M 6 S (by rw [EA.out, EB.out]; exact ES.out)))⟩
   case measure => simp [intOf]
  ·have c1 : wr.cell? ⟨gy, 6, none⟩ = some (.int .u32 (M.getD 6 0 : Nat)) := RI.out.1.u32 6 (by rw [WM.out.1]; omega)
   have c2 : wr.cell? ⟨gx, 6, none⟩ = some (.int .u32 (L.getD 6 0 : Nat)) := RI.out.2.1.u32 6 (by rw [WF.out.1]; omega)
   generalize hA : M.getD 6 0 = A at c1
   generalize hB : L.getD 6 0 = B at c2
   have EA := Lib.hid hA
   have EB := Lib.hid hB
   clear hA hB
   have rS : ((A : Int) + (B : Int)) % 4294967296 = (((A + B) % 4294967296 : Nat) : Int) := by omega
   generalize hS : (A + B) % 4294967296 = S at rS
   have z0 : wr.cell? ⟨gz, 25, none⟩ = some (.int .u8 0) := RI.out.2.2.1.b8 25 (obs1_zero _ _ _ _ (by omega) (by omega)) rfl
   have f0 : wr.frozen? ⟨gz, 25, none⟩ = false := RI.out.2.2.1.free _
   have ES := Lib.hid hS
   clear hS
   go_wp2_with fail
   go_region
   go_wp2_with fail
   clear c1 c2 rS z0 f0
   go_roundw
   case rel => exact ⟨26, by omega, rfl, Lib.hid (OutR.next 25 RI.out EY.out EX.out EO.out LZ.out _ (ob1 L M 6 S (by rw [EA.out, EB.out]; exact ES.out)))⟩
   case measure => simp [intOf]
  ·have c1 : wr.cell? ⟨gy, 6, none⟩ = some (.int .u32 (M.getD 6 0 : Nat)) := RI.out.1.u32 6 (by rw [WM.out.1]; omega)
   have c2 : wr.cell? ⟨gx, 6, none⟩ = some (.int .u32 (L.getD 6 0 : Nat)) := RI.out.2.1.u32 6 (by rw [WF.out.1]; omega)
   generalize hA : M.getD 6 0 = A at c1
   generalize hB : L.getD 6 0 = B at c2
   have EA := Lib.hid hA
   have EB := Lib.hid hB
   clear hA hB
   have rS : ((A : Int) + (B : Int)) % 4294967296 = (((A + B) % 4294967296 : Nat) : Int) := by omega
   generalize hS : (A + B) % 4294967296 = S at rS
   have z0 : wr.cell? ⟨gz, 26, none⟩ = some (.int .u8 0) := RI.out.2.2.1.b8 26 (obs1_zero _ _ _ _ (by omega) (by omega)) rfl
   have f0 : wr.frozen? ⟨gz, 26, none⟩ = false := RI.out.2.2.1.free _
   have ES := Lib.hid hS
   clear hS
   go_wp2_with fail
   go_region
   go_wp2_with fail
   clear c1 c2 rS z0 f0
   go_roundw
   case rel => exact ⟨27, by omega, rfl, Lib.hid (OutR.next 26 RI.out EY.out EX.out EO.out LZ.out _ (ob2 L M 6 S (by rw [EA.out, EB.out]; exact ES.out)))⟩
   case measure => simp [intOf]
  ·have c1 : wr.cell? ⟨gy, 6, none⟩ = some (.int .u32 (M.getD 6 0 : Nat)) := RI.out.1.u32 6 (by rw [WM.out.1]; omega)
   have c2 : wr.cell? ⟨gx, 6, none⟩ = some (.int .u32 (L.getD 6 0 : Nat)) := RI.out.2.1.u32 6 (by rw [WF.out.1]; omega)
   generalize hA : M.getD 6 0 = A at c1
   generalize hB : L.getD 6 0 = B at c2
   have EA := Lib.hid hA
   have EB := Lib.hid hB
   clear hA hB
   have rS : ((A : Int) + (B : Int)) % 4294967296 = (((A + B) % 4294967296 : Nat) : Int) := by omega
   generalize hS : (A + B) % 4294967296 = S at rS
   have z0 : wr.cell? ⟨gz, 27, none⟩ = some (.int .u8 0) := RI.out.2.2.1.b8 27 (obs1_zero _ _ _ _ (by omega) (by omega)) rfl
   have f0 : wr.frozen? ⟨gz, 27, none⟩ = false := RI.out.2.2.1.free _
   have ES := Lib.hid hS
   clear hS
   go_wp2_with fail
   go_region
   go_wp2_with fail
   clear c1 c2 rS z0 f0
   go_roundw
   case rel => exact ⟨28, by omega, rfl, Lib.hid (OutR.next 27 RI.out EY.out EX.out EO.out LZ.out _ (ob3 L M 6 S (by rw [EA.out, EB.out]; exact ES.out)))⟩
   case measure => simp [intOf]
  ·have c1 : wr.cell? ⟨gy, 7, none⟩ = some (.int .u32 (M.getD 7 0 : Nat)) := RI.out.1.u32 7 (by rw [WM.out.1]; omega)
   have c2 : wr.cell? ⟨gx, 7, none⟩ = some (.int .u32 (L.getD 7 0 : Nat)) := RI.out.2.1.u32 7 (by rw [WF.out.1]; omega)
   generalize hA : M.getD 7 0 = A at c1
   generalize hB : L.getD 7 0 = B at c2
   have EA := Lib.hid hA
   have EB := Lib.hid hB
   clear hA hB
   have rS : ((A : Int) + (B : Int)) % 4294967296 = (((A + B) % 4294967296 : Nat) : Int) := by omega
   generalize hS : (A + B) % 4294967296 = S at rS
   have z0 : wr.cell? ⟨gz, 28, none⟩ = some (.int .u8 0) := RI.out.2.2.1.b8 28 (obs1_zero _ _ _ _ (by omega) (by omega)) rfl
   have f0 : wr.frozen? ⟨gz, 28, none⟩ = false := RI.out.2.2.1.free _
   have ES := Lib.hid hS
   clear hS
   go_wp2_with fail
   go_region
   go_wp2_with fail
   clear c1 c2 rS z0 f0
   go_roundw
   case rel => exact ⟨29, by omega, rfl, Lib.hid (OutR.next 28 RI.out EY.out EX.out EO.out LZ.out _ (ob0 L M 7 S (by rw [EA.out, EB.out]; exact ES.out)))⟩
   case measure => simp [intOf]
  ·have c1 : wr.cell? ⟨gy, 7, none⟩ = some (.int .u32 (M.getD 7 0 : Nat)) := RI.out.1.u32 7 (by rw [WM.out.1]; omega)
   have c2 : wr.cell? ⟨gx, 7, none⟩ = some (.int .u32 (L.getD 7 0 : Nat)) := RI.out.2.1.u32 7 (by rw [WF.out.1]; omega)
   generalize hA : M.getD 7 0 = A at c1
   generalize hB : L.getD 7 0 = B at c2
   have EA := Lib.hid hA
   have EB := Lib.hid hB
   clear hA hB
   have rS : ((A : Int) + (B : Int)) % 4294967296 = (((A + B) % 4294967296 : Nat) : Int) := by omega
   generalize hS : (A + B) % 4294967296 = S at rS
   have z0 : wr.cell? ⟨gz, 29, none⟩ = some (.int .u8 0) := RI.out.2.2.1.b8 29 (obs1_zero _ _ _ _ (by omega) (by omega)) rfl
   have f0 : wr.frozen? ⟨gz, 29, none⟩ = false := RI.out.2.2.1.free _
   have ES := Lib.hid hS
   clear hS
   go_wp2_with fail
   go_region
   go_wp2_with fail
   clear c1 c2 rS z0 f0
   go_roundw
   case rel => exact ⟨30, by omega, rfl, Lib.hid (OutR.next 29 RI.out EY.out EX.out EO.out LZ.out _ (ob1 L M 7 S (by rw [EA.out, EB.out]; exact ES.out)))⟩
   case measure => simp [intOf]
  ·have c1 : wr.cell? ⟨gy, 7, none⟩ = some (.int .u32 (M.getD 7 0 : Nat)) := RI.out.1.u32 7 (by rw [WM.out.1]; omega)
   have c2 : wr.cell? ⟨gx, 7, none⟩ = some (.int .u32 (L.getD 7 0 : Nat)) := RI.out.2.1.u32 7 (by rw [WF.out.1]; omega)
   generalize hA : M.getD 7 0 = A at c1
   generalize hB : L.getD 7 0 = B at c2
   have EA := Lib.hid hA
   have EB := Lib.hid hB
   clear hA hB
   have rS : ((A : Int) + (B : Int)) % 4294967296 = (((A + B) % 4294967296 : Nat) : Int) := by omega
   generalize hS : (A + B) % 4294967296 = S at rS
   have z0 : wr.cell? ⟨gz, 30, none⟩ = some (.int .u8 0) := RI.out.2.2.1.b8 30 (obs1_zero _ _ _ _ (by omega) (by omega)) rfl
   have f0 : wr.frozen? ⟨gz, 30, none⟩ = false := RI.out.2.2.1.free _
   have ES := Lib.hid hS
   clear hS
   go_wp2_with fail
   go_region
   go_wp2_with fail
   clear c1 c2 rS z0 f0
   go_roundw
   case rel => exact ⟨31, by omega, rfl, Lib.hid (OutR.next 30 RI.out EY.out EX.out EO.out LZ.out _ (ob2 L M 7 S (by rw [EA.out, EB.out]; exact ES.out)))⟩
   case measure => simp [intOf]
  ·have c1 : wr.cell? ⟨gy, 7, none⟩ = some (.int .u32 (M.getD 7 0 : Nat)) := RI.out.1.u32 7 (by rw [WM.out.1]; omega)
   have c2 : wr.cell? ⟨gx, 7, none⟩ = some (.int .u32 (L.getD 7 0 : Nat)) := RI.out.2.1.u32 7 (by rw [WF.out.1]; omega)
   generalize hA : M.getD 7 0 = A at c1
   generalize hB : L.getD 7 0 = B at c2
   have EA := Lib.hid hA
   have EB := Lib.hid hB
   clear hA hB
   have rS : ((A : Int) + (B : Int)) % 4294967296 = (((A + B) % 4294967296 : Nat) : Int) := by omega
   generalize hS : (A + B) % 4294967296 = S at rS
   have z0 : wr.cell? ⟨gz, 31, none⟩ = some (.int .u8 0) := RI.out.2.2.1.b8 31 (obs1_zero _ _ _ _ (by omega) (by omega)) rfl
   have f0 : wr.frozen? ⟨gz, 31, none⟩ = false := RI.out.2.2.1.free _
   have ES := Lib.hid hS
   clear hS
   go_wp2_with fail
   go_region
   go_wp2_with fail
   clear c1 c2 rS z0 f0
   go_roundw
   case rel => exact ⟨32, by omega, rfl, Lib.hid (OutR.next 31 RI.out EY.out EX.out EO.out LZ.out _ (ob3 L M 7 S (by rw [EA.out, EB.out]; exact ES.out)))⟩
   case measure => simp [intOf]
  ·have c1 : wr.cell? ⟨gy, 8, none⟩ = some (.int .u32 (M.getD 8 0 : Nat)) := RI.out.1.u32 8 (by rw [WM.out.1]; omega)
   have c2 : wr.cell? ⟨gx, 8, none⟩ = some (.int .u32 (L.getD 8 0 : Nat)) := RI.out.2.1.u32 8 (by rw [WF.out.1]; omega)
   generalize hA : M.getD 8 0 = A at c1
   generalize hB : L.getD 8 0 = B at c2
   have EA := Lib.hid hA
   have EB := Lib.hid hB
   clear hA hB
   have rS : ((A : Int) + (B : Int)) % 4294967296 = (((A + B) % 4294967296 : Nat) : Int) := by omega
   generalize hS : (A + B) % 4294967296 = S at rS
   have z0 : wr.cell? ⟨gz, 32, none⟩ = some (.int .u8 0) := RI.out.2.2.1.b8 32 (obs1_zero _ _ _ _ (by omega) (by omega)) rfl
   have f0 : wr.frozen? ⟨gz, 32, none⟩ = false := RI.out.2.2.1.free _
   have ES := Lib.hid hS
   clear hS
   go_wp2_with fail
   go_region
   go_wp2_with fail
   clear c1 c2 rS z0 f0
   go_roundw
   case rel => exact ⟨33, by omega, rfl, Lib.hid (OutR.next 32 RI.out EY.out EX.out EO.out LZ.out _ (ob0 L M 8 S (by rw [EA.out, EB.out]; exact ES.out)))⟩
   case measure => simp [intOf]
  ·have c1 : wr.cell? ⟨gy, 8, none⟩ = some (.int .u32 (M.getD 8 0 : Nat)) := RI.out.1.u32 8 (by rw [WM.out.1]; omega)
   have c2 : wr.cell? ⟨gx, 8, none⟩ = some (.int .u32 (L.getD 8 0 : Nat)) := RI.out.2.1.u32 8 (by rw [WF.out.1]; omega)
   generalize hA : M.getD 8 0 = A at c1
   generalize hB : L.getD 8 0 = B at c2
   have EA := Lib.hid hA
   have EB := Lib.hid hB
   clear hA hB
   have rS : ((A : Int) + (B : Int)) % 4294967296 = (((A + B) % 4294967296 : Nat) : Int) := by omega
   generalize hS : (A + B) % 4294967296 = S at rS
   have z0 : wr.cell? ⟨gz, 33, none⟩ = some (.int .u8 0) := RI.out.2.2.1.b8 33 (obs1_zero _ _ _ _ (by omega) (by omega)) rfl
   have f0 : wr.frozen? ⟨gz, 33, none⟩ = false := RI.out.2.2.1.free _
   have ES := Lib.hid hS
   clear hS
   go_wp2_with fail
   go_region
   go_wp2_with fail
   clear c1 c2 rS z0 f0
   go_roundw
   case rel => exact ⟨34, by omega, rfl, Lib.hid (OutR.next 33 RI.out EY.out EX.out EO.out LZ.out _ (ob1 L M 8 S (by rw [EA.out, EB.out]; exact ES.out)))⟩
   case measure => simp [intOf]
  ·have c1 : wr.cell? ⟨gy, 8, none⟩ = some (.int .u32 (M.getD 8 0 : Nat)) := RI.out.1.u32 8 (by rw [WM.out.1]; omega)
   have c2 : wr.cell? ⟨gx, 8, none⟩ = some (.int .u32 (L.getD 8 0 : Nat)) := RI.out.2.1.u32 8 (by rw [WF.out.1]; omega)
   generalize hA : M.getD 8 0 = A at c1
   generalize hB : L.getD 8 0 = B at c2
   have EA := Lib.hid hA
   have EB := Lib.hid hB
   clear hA hB
   have rS : ((A : Int) + (B : Int)) % 4294967296 = (((A + B) % 4294967296 : Nat) : Int) := by omega
   generalize hS : (A + B) % 4294967296 = S at rS
   have z0 : wr.cell? ⟨gz, 34, none⟩ = some (.int .u8 0) := RI.out.2.2.1.b8 34 (obs1_zero _ _ _ _ (by omega) (by omega)) rfl
   have f0 : wr.frozen? ⟨gz, 34, none⟩ = false := RI.out.2.2.1.free _
   have ES := Lib.hid hS
   clear hS
   go_wp2_with fail
   go_region
   go_wp2_with fail
   clear c1 c2 rS z0 f0
   go_roundw
   case rel => exact ⟨35, by omega, rfl, Lib.hid (OutR.next 34 RI.out EY.out EX.out EO.out LZ.out _ (ob2 L M 8 S (by rw [EA.out, EB.out]; exact ES.out)))⟩
   case measure => simp [intOf]
  ·have c1 : wr.cell? ⟨gy, 8, none⟩ = some (.int .u32 (M.getD 8 0 : Nat)) := RI.out.1.u32 8 (by rw [WM.out.1]; omega)
   have c2 : wr.cell? ⟨gx, 8, none⟩ = some (.int .u32 (L.getD 8 0 : Nat)) := RI.out.2.1.u32 8 (by rw [WF.out.1]; omega)
   generalize hA : M.getD 8 0 = A at c1
   generalize hB : L.getD 8 0 = B at c2
   have EA := Lib.hid hA
   have EB := Lib.hid hB
   clear hA hB
   have rS : ((A : Int) + (B : Int)) % 4294967296 = (((A + B) % 4294967296 : Nat) : Int) := by omega
   generalize hS : (A + B) % 4294967296 = S at rS
   have z0 : wr.cell? ⟨gz, 35, none⟩ = some (.int .u8 0) := RI.out.2.2.1.b8 35 (obs1_zero _ _ _ _ (by omega) (by omega)) rfl
   have f0 : wr.frozen? ⟨gz, 35, none⟩ = false := RI.out.2.2.1.free _
   have ES := Lib.hid hS
   clear hS
   go_wp2_with fail
   go_region
   go_wp2_with fail
   clear c1 c2 rS z0 f0
   go_roundw
   case rel => exact ⟨36, by omega, rfl, Lib.hid (OutR.next 35 RI.out EY.out EX.out EO.out LZ.out _ (ob3 L M 8 S (by rw [EA.out, EB.out]; exact ES.out)))⟩
   case measure => simp [intOf]
  ·have c1 : wr.cell? ⟨gy, 9, none⟩ = some (.int .u32 (M.getD 9 0 : Nat)) := RI.out.1.u32 9 (by rw [WM.out.1]; omega)
   have c2 : wr.cell? ⟨gx, 9, none⟩ = some (.int .u32 (L.getD 9 0 : Nat)) := RI.out.2.1.u32 9 (by rw [WF.out.1]; omega)
   generalize hA : M.getD 9 0 = A at c1
   generalize hB : L.getD 9 0 = B at c2
   have EA := Lib.hid hA
   have EB := Lib.hid hB
   clear hA hB
   have rS : ((A : Int) + (B : Int)) % 4294967296 = (((A + B) % 4294967296 : Nat) : Int) := by omega
   generalize hS : (A + B) % 4294967296 = S at rS
   have z0 : wr.cell? ⟨gz, 36, none⟩ = some (.int .u8 0) := RI.out.2.2.1.b8 36 (obs1_zero _ _ _ _ (by omega) (by omega)) rfl
   have f0 : wr.frozen? ⟨gz, 36, none⟩ = false := RI.out.2.2.1.free _
   have ES := Lib.hid hS
   clear hS
   go_wp2_with fail
   go_region
   go_wp2_with fail
   clear c1 c2 rS z0 f0
   go_roundw
   case rel => exact ⟨37, by omega, rfl, Lib.hid (OutR.next 36 RI.out EY.out EX.out EO.out LZ.out _ (ob0 L M 9 S (by rw [EA.out, EB.out]; exact ES.out)))⟩
   case measure => simp [intOf]
  ·have c1 : wr.cell? ⟨gy, 9, none⟩ = some (.int .u32 (M.getD 9 0 : Nat)) := RI.out.1.u32 9 (by rw [WM.out.1]; omega)
   have c2 : wr.cell? ⟨gx, 9, none⟩ = some (.int .u32 (L.getD 9 0 : Nat)) := RI.out.2.1.u32 9 (by rw [WF.out.1]; omega)
   generalize hA : M.getD 9 0 = A at c1
   generalize hB : L.getD 9 0 = B at c2
   have EA := Lib.hid hA
   have EB := Lib.hid hB
   clear hA hB
   have rS : ((A : Int) + (B : Int)) % 4294967296 = (((A + B) % 4294967296 : Nat) : Int) := by omega
   generalize hS : (A + B) % 4294967296 = S at rS
   have z0 : wr.cell? ⟨gz, 37, none⟩ = some (.int .u8 0) := RI.out.2.2.1.b8 37 (obs1_zero _ _ _ _ (by omega) (by omega)) rfl
   have f0 : wr.frozen? ⟨gz, 37, none⟩ = false := RI.out.2.2.1.free _
   have ES := Lib.hid hS
   clear hS
   go_wp2_with fail
   go_region
   go_wp2_with fail
   clear c1 c2 rS z0 f0
   go_roundw
   case rel => exact ⟨38, by omega, rfl, Lib.hid (OutR.next 37 RI.out EY.out EX.out EO.out LZ.out _ (ob1 L M 9 S (by rw [EA.out, EB.out]; exact ES.out)))⟩
   case measure => simp [intOf]
  ·have c1 : wr.cell? ⟨gy, 9, none⟩ = some (.int .u32 (M.getD 9 0 : Nat)) := RI.out.1.u32 9 (by rw [WM.out.1]; omega)
   have c2 : wr.cell? ⟨gx, 9, none⟩ = some (.int .u32 (L.getD 9 0 : Nat)) := RI.out.2.1.u32 9 (by rw [WF.out.1]; omega)
   generalize hA : M.getD 9 0 = A at c1
   generalize hB : L.getD 9 0 = B at c2
   have EA := Lib.hid hA
   have EB := Lib.hid hB
   clear hA hB
   have rS : ((A : Int) + (B : Int)) % 4294967296 = (((A + B) % 4294967296 : Nat) : Int) := by omega
   generalize hS : (A + B) % 4294967296 = S at rS
   have z0 : wr.cell? ⟨gz, 38, none⟩ = some (.int .u8 0) := RI.out.2.2.1.b8 38 (obs1_zero _ _ _ _ (by omega) (by omega)) rfl
   have f0 : wr.frozen? ⟨gz, 38, none⟩ = false := RI.out.2.2.1.free _
   have ES := Lib.hid hS
   clear hS
   go_wp2_with fail
   go_region
   go_wp2_with fail
   clear c1 c2 rS z0 f0
   go_roundw
   case rel => exact ⟨39, by omega, rfl, Lib.hid (OutR.next 38 RI.out EY.out EX.out EO.out LZ.out _ (ob2 L M 9 S (by rw [EA.out, EB.out]; exact ES.out)))⟩
   case measure => simp [intOf]
  ·have c1 : wr.cell? ⟨gy, 9, none⟩ = some (.int .u32 (M.getD 9 0 : Nat)) := RI.out.1.u32 9 (by rw [WM.out.1]; omega)
   have c2 : wr.cell? ⟨gx, 9, none⟩ = some (.int .u32 (L.getD 9 0 : Nat)) := RI.out.2.1.u32 9 (by rw [WF.out.1]; omega)
   generalize hA : M.getD 9 0 = A at c1
   generalize hB : L.getD 9 0 = B at c2
   have EA := Lib.hid hA
   have EB := Lib.hid hB
   clear hA hB
   have rS : ((A : Int) + (B : Int)) % 4294967296 = (((A + B) % 4294967296 : Nat) : Int) := by omega
   generalize hS : (A + B) % 4294967296 = S at rS
   have z0 : wr.cell? ⟨gz, 39, none⟩ = some (.int .u8 0) := RI.out.2.2.1.b8 39 (obs1_zero _ _ _ _ (by omega) (by omega)) rfl
   have f0 : wr.frozen? ⟨gz, 39, none⟩ = false := RI.out.2.2.1.free _
   have ES := Lib.hid hS
   clear hS
   go_wp2_with fail
   go_region
   go_wp2_with fail
   clear c1 c2 rS z0 f0
   go_roundw
   case rel => exact ⟨40, by omega, rfl, Lib.hid (OutR.next 39 RI.out EY.out EX.out EO.out LZ.out _ (ob3 L M 9 S (by rw [EA.out, EB.out]; exact ES.out)))⟩
   case measure => simp [intOf]
  ·have c1 : wr.cell? ⟨gy, 10, none⟩ = some (.int .u32 (M.getD 10 0 : Nat)) := RI.out.1.u32 10 (by rw [WM.out.1]; omega)
   have c2 : wr.cell? ⟨gx, 10, none⟩ = some (.int .u32 (L.getD 10 0 : Nat)) := RI.out.2.1.u32 10 (by rw [WF.out.1]; omega)
   generalize hA : M.getD 10 0 = A at c1
   generalize hB : L.getD 10 0 = B at c2
   have EA := Lib.hid hA
   have EB := Lib.hid hB
   clear hA hB
   have rS : ((A : Int) + (B : Int)) % 4294967296 = (((A + B) % 4294967296 : Nat) : Int) := by omega
   generalize hS : (A + B) % 4294967296 = S at rS
   have z0 : wr.cell? ⟨gz, 40, none⟩ = some (.int .u8 0) := RI.out.2.2.1.b8 40 (obs1_zero _ _ _ _ (by omega) (by omega)) rfl
   have f0 : wr.frozen? ⟨gz, 40, none⟩ = false := RI.out.2.2.1.free _
   have ES := Lib.hid hS
   clear hS
   go_wp2_with fail
   go_region
   go_wp2_with fail
   clear c1 c2 rS z0 f0
   go_roundw
   case rel => exact ⟨41, by omega, rfl, Lib.hid (OutR.next 40 RI.out EY.out EX.out EO.out LZ.out _ (ob0 L M 10 S (by rw [EA.out, EB.out]; exact ES.out)))⟩
   case measure => simp [intOf]
  ·have c1 : wr.cell? ⟨gy, 10, none⟩ = some (.int .u32 (M.getD 10 0 : Nat)) := RI.out.1.u32 10 (by rw [WM.out.1]; omega)
   have c2 : wr.cell? ⟨gx, 10, none⟩ = some (.int .u32 (L.getD 10 0 : Nat)) := RI.out.2.1.u32 10 (by rw [WF.out.1]; omega)
   generalize hA : M.getD 10 0 = A at c1
   generalize hB : L.getD 10 0 = B at c2
   have EA := Lib.hid hA
   have EB := Lib.hid hB
   clear hA hB
   have rS : ((A : Int) + (B : Int)) % 4294967296 = (((A + B) % 4294967296 : Nat) : Int) := by omega
   generalize hS : (A + B) % 4294967296 = S at rS
   have z0 : wr.cell? ⟨gz, 41, none⟩ = some (.int .u8 0) := RI.out.2.2.1.b8 41 (obs1_zero _ _ _ _ (by omega) (by omega)) rfl
   have f0 : wr.frozen? ⟨gz, 41, none⟩ = false := RI.out.2.2.1.free _
   have ES := Lib.hid hS
   clear hS
   go_wp2_with fail
   go_region
   go_wp2_with fail
   clear c1 c2 rS z0 f0
   go_roundw
   case rel => exact ⟨42, by omega, rfl, Lib.hid (OutR.next 41 RI.out EY.out EX.out EO.out LZ.out _ (ob1 L M 10 S (by rw [EA.out, EB.out]; exact ES.out)))⟩
   case measure => simp [intOf]
  ·have c1 : wr.cell? ⟨gy, 10, none⟩ = some (.int .u32 (M.getD 10 0 : Nat)) := RI.out.1.u32 10 (by rw [WM.out.1]; omega)
   have c2 : wr.cell? ⟨gx, 10, none⟩ = some (.int .u32 (L.getD 10 0 : Nat)) := RI.out.2.1.u32 10 (by rw [WF.out.1]; omega)
   generalize hA : M.getD 10 0 = A at c1
   generalize hB : L.getD 10 0 = B at c2
   have EA := Lib.hid hA
   have EB := Lib.hid hB
   clear hA hB
   have rS : ((A : Int) + (B : Int)) % 4294967296 = (((A + B) % 4294967296 : Nat) : Int) := by omega
   generalize hS : (A + B) % 4294967296 = S at rS
   have z0 : wr.cell? ⟨gz, 42, none⟩ = some (.int .u8 0) := RI.out.2.2.1.b8 42 (obs1_zero _ _ _ _ (by omega) (by omega)) rfl
   have f0 : wr.frozen? ⟨gz, 42, none⟩ = false := RI.out.2.2.1.free _
   have ES := Lib.hid hS
   clear hS
   go_wp2_with fail
   go_region
   go_wp2_with fail
   clear c1 c2 rS z0 f0
   go_roundw
   case rel => exact ⟨43, by omega, rfl, Lib.hid (OutR.next 42 RI.out EY.out EX.out EO.out LZ.out _ (ob2 L M 10 S (by rw [EA.out, EB.out]; exact ES.out)))⟩
   case measure => simp [intOf]
  ·have c1 : wr.cell? ⟨gy, 10, none⟩ = some (.int .u32 (M.getD 10 0 : Nat)) := RI.out.1.u32 10 (by rw [WM.out.1]; omega)
   have c2 : wr.cell? ⟨gx, 10, none⟩ = some (.int .u32 (L.getD 10 0 : Nat)) := RI.out.2.1.u32 10 (by rw [WF.out.1]; omega)
   generalize hA : M.getD 10 0 = A at c1
   generalize hB : L.getD 10 0 = B at c2
   have EA := Lib.hid hA
   have EB := Lib.hid hB
   clear hA hB
   have rS : ((A : Int) + (B : Int)) % 4294967296 = (((A + B) % 4294967296 : Nat) : Int) := by omega
   generalize hS : (A + B) % 4294967296 = S at rS
   have z0 : wr.cell? ⟨gz, 43, none⟩ = some (.int .u8 0) := RI.out.2.2.1.b8 43 (obs1_zero _ _ _ _ (by omega) (by omega)) rfl
   have f0 : wr.frozen? ⟨gz, 43, none⟩ = false := RI.out.2.2.1.free _
   have ES := Lib.hid hS
   clear hS
   go_wp2_with fail
   go_region
   go_wp2_with fail
   clear c1 c2 rS z0 f0
   go_roundw
   case rel => exact ⟨44, by omega, rfl, Lib.hid (OutR.next 43 RI.out EY.out EX.out EO.out LZ.out _ (ob3 L M 10 S (by rw [EA.out, EB.out]; exact ES.out)))⟩
   case measure => simp [intOf]
  ·have c1 : wr.cell? ⟨gy, 11, none⟩ = some (.int .u32 (M.getD 11 0 : Nat)) := RI.out.1.u32 11 (by rw [WM.out.1]; omega)
   have c2 : wr.cell? ⟨gx, 11, none⟩ = some (.int .u32 (L.getD 11 0 : Nat)) := RI.out.2.1.u32 11 (by rw [WF.out.1]; omega)
   generalize hA : M.getD 11 0 = A at c1
   generalize hB : L.getD 11 0 = B at c2
   have EA := Lib.hid hA
   have EB := Lib.hid hB
   clear hA hB
   have rS : ((A : Int) + (B : Int)) % 4294967296 = (((A + B) % 4294967296 : Nat) : Int) := by omega
   generalize hS : (A + B) % 4294967296 = S at rS
   have z0 : wr.cell? ⟨gz, 44, none⟩ = some (.int .u8 0) := RI.out.2.2.1.b8 44 (obs1_zero _ _ _ _ (by omega) (by omega)) rfl
   have f0 : wr.frozen? ⟨gz, 44, none⟩ = false := RI.out.2.2.1.free _
   have ES := Lib.hid hS
   clear hS
   go_wp2_with fail
   go_region
   go_wp2_with fail
   clear c1 c2 rS z0 f0
   go_roundw
   case rel => exact ⟨45, by omega, rfl, Lib.hid (OutR.next 44 RI.out EY.out EX.out EO.out LZ.out _ (ob0 L M 11 S (by rw [EA.out, EB.out]; exact ES.out)))⟩
   case measure => simp [intOf]
  ·have c1 : wr.cell? ⟨gy, 11, none⟩ = some (.int .u32 (M.getD 11 0 : Nat)) := RI.out.1.u32 11 (by rw [WM.out.1]; omega)
   have c2 : wr.cell? ⟨gx, 11, none⟩ = some (.int .u32 (L.getD 11 0 : Nat)) := RI.out.2.1.u32 11 (by rw [WF.out.1]; omega)
   generalize hA : M.getD 11 0 = A at c1
   generalize hB : L.getD 11 0 = B at c2
   have EA := Lib.hid hA
   have EB := Lib.hid hB
   clear hA hB
   have rS : ((A : Int) + (B : Int)) % 4294967296 = (((A + B) % 4294967296 : Nat) : Int) := by omega
   generalize hS : (A + B) % 4294967296 = S at rS
   have z0 : wr.cell? ⟨gz, 45, none⟩ = some (.int .u8 0) := RI.out.2.2.1.b8 45 (obs1_zero _ _ _ _ (by omega) (by omega)) rfl
   have f0 : wr.frozen? ⟨gz, 45, none⟩ = false := RI.out.2.2.1.free _
   have ES := Lib.hid hS
   clear hS
   go_wp2_with fail
   go_region
   go_wp2_with fail
   clear c1 c2 rS z0 f0
   go_roundw
   case rel => exact ⟨46, by omega, rfl, Lib.hid (OutR.next 45 RI.out EY.out EX.out EO.out LZ.out _ (ob1 L M 11 S (by rw [EA.out, EB.out]; exact ES.out)))⟩
   case measure => simp [intOf]
  ·have c1 : wr.cell? ⟨gy, 11, none⟩ = some (.int .u32 (M.getD 11 0 : Nat)) := RI.out.1.u32 11 (by rw [WM.out.1]; omega)
   have c2 : wr.cell? ⟨gx, 11, none⟩ = some (.int .u32 (L.getD 11 0 : Nat)) := RI.out.2.1.u32 11 (by rw [WF.out.1]; omega)
   generalize hA : M.getD 11 0 = A at c1
   generalize hB : L.getD 11 0 = B at c2
   have EA := Lib.hid hA
   have EB := Lib.hid hB
   clear hA hB
   have rS : ((A : Int) + (B : Int)) % 4294967296 = (((A + B) % 4294967296 : Nat) : Int) := by omega
   generalize hS : (A + B) % 4294967296 = S at rS
   have z0 : wr.cell? ⟨gz, 46, none⟩ = some (.int .u8 0) := RI.out.2.2.1.b8 46 (obs1_zero _ _ _ _ (by omega) (by omega)) rfl
   have f0 : wr.frozen? ⟨gz, 46, none⟩ = false := RI.out.2.2.1.free _
   have ES := Lib.hid hS
   clear hS
   go_wp2_with fail
   go_region
   go_wp2_with fail
   clear c1 c2 rS z0 f0
   go_roundw
   case rel => exact ⟨47, by omega, rfl, Lib.hid (OutR.next 46 RI.out EY.out EX.out EO.out LZ.out _ (ob2 L M 11 S (by rw [EA.out, EB.out]; exact ES.out)))⟩
   case measure => simp [intOf]
  ·have c1 : wr.cell? ⟨gy, 11, none⟩ = some (.int .u32 (M.getD 11 0 : Nat)) := RI.out.1.u32 11 (by rw [WM.out.1]; omega)
   have c2 : wr.cell? ⟨gx, 11, none⟩ = some (.int .u32 (L.getD 11 0 : Nat)) := RI.out.2.1.u32 11 (by rw [WF.out.1]; omega)
   generalize hA : M.getD 11 0 = A at c1
   generalize hB : L.getD 11 0 = B at c2
   have EA := Lib.hid hA
   have EB := Lib.hid hB
   clear hA hB
   have rS : ((A : Int) + (B : Int)) % 4294967296 = (((A + B) % 4294967296 : Nat) : Int) := by omega
   generalize hS : (A + B) % 4294967296 = S at rS
   have z0 : wr.cell? ⟨gz, 47, none⟩ = some (.int .u8 0) := RI.out.2.2.1.b8 47 (obs1_zero _ _ _ _ (by omega) (by omega)) rfl
   have f0 : wr.frozen? ⟨gz, 47, none⟩ = false := RI.out.2.2.1.free _
   have ES := Lib.hid hS
   clear hS
   go_wp2_with fail
   go_region
   go_wp2_with fail
   clear c1 c2 rS z0 f0
   go_roundw
   case rel => exact ⟨48, by omega, rfl, Lib.hid (OutR.next 47 RI.out EY.out EX.out EO.out LZ.out _ (ob3 L M 11 S (by rw [EA.out, EB.out]; exact ES.out)))⟩
   case measure => simp [intOf]
  ·have c1 : wr.cell? ⟨gy, 12, none⟩ = some (.int .u32 (M.getD 12 0 : Nat)) := RI.out.1.u32 12 (by rw [WM.out.1]; omega)
   have c2 : wr.cell? ⟨gx, 12, none⟩ = some (.int .u32 (L.getD 12 0 : Nat)) := RI.out.2.1.u32 12 (by rw [WF.out.1]; omega)
   generalize hA : M.getD 12 0 = A at c1
   generalize hB : L.getD 12 0 = B at c2
   have EA := Lib.hid hA
   have EB := Lib.hid hB
   clear hA hB
   have rS : ((A : Int) + (B : Int)) % 4294967296 = (((A + B) % 4294967296 : Nat) : Int) := by omega
   generalize hS : (A + B) % 4294967296 = S at rS
   have z0 : wr.cell? ⟨gz, 48, none⟩ = some (.int .u8 0) := RI.out.2.2.1.b8 48 (obs1_zero _ _ _ _ (by omega) (by omega)) rfl
   have f0 : wr.frozen? ⟨gz, 48, none⟩ = false := RI.out.2.2.1.free _
   have ES := Lib.hid hS
   clear hS
   go_wp2_with fail
   go_region
   go_wp2_with fail
   clear c1 c2 rS z0 f0
   go_roundw
   case rel => exact ⟨49, by omega, rfl, Lib.hid (OutR.next 48 RI.out EY.out EX.out EO.out LZ.out _ (ob0 L M 12 S (by rw [EA.out, EB.out]; exact ES.out)))⟩
   case measure => simp [intOf]
  ·have c1 : wr.cell? ⟨gy, 12, none⟩ = some (.int .u32 (M.getD 12 0 : Nat)) := RI.out.1.u32 12 (by rw [WM.out.1]; omega)
   have c2 : wr.cell? ⟨gx, 12, none⟩ = some (.int .u32 (L.getD 12 0 : Nat)) := RI.out.2.1.u32 12 (by rw [WF.out.1]; omega)
   generalize hA : M.getD 12 0 = A at c1
   generalize hB : L.getD 12 0 = B at c2
   have EA := Lib.hid hA
   have EB := Lib.hid hB
   clear hA hB
   have rS : ((A : Int) + (B : Int)) % 4294967296 = (((A + B) % 4294967296 : Nat) : Int) := by omega
   generalize hS : (A + B) % 4294967296 = S at rS
   have z0 : wr.cell? ⟨gz, 49, none⟩ = some (.int .u8 0) := RI.out.2.2.1.b8 49 (obs1_zero _ _ _ _ (by omega) (by omega)) rfl
   have f0 : wr.frozen? ⟨gz, 49, none⟩ = false := RI.out.2.2.1.free _
   have ES := Lib.hid hS
   clear hS
   go_wp2_with fail
   go_region
   go_wp2_with fail
   clear c1 c2 rS z0 f0
   go_roundw
   case rel => exact ⟨50, by omega, rfl, Lib.hid (OutR.next 49 RI.out EY.out EX.out EO.out LZ.out _ (ob1 L M 12 S (by rw [EA.out, EB.out]; exact ES.out)))⟩
   case measure => simp [intOf]
  ·have c1 : wr.cell? ⟨gy, 12, none⟩ = some (.int .u32 (M.getD 12 0 : Nat)) := RI.out.1.u32 12 (by rw [WM.out.1]; omega)
   have c2 : wr.cell? ⟨gx, 12, none⟩ = some (.int .u32 (L.getD 12 0 : Nat)) := RI.out.2.1.u32 12 (by rw [WF.out.1]; omega)
   generalize hA : M.getD 12 0 = A at c1
   generalize hB : L.getD 12 0 = B at c2
   have EA := Lib.hid hA
   have EB := Lib.hid hB
   clear hA hB
   have rS : ((A : Int) + (B : Int)) % 4294967296 = (((A + B) % 4294967296 : Nat) : Int) := by omega
   generalize hS : (A + B) % 4294967296 = S at rS
   have z0 : wr.cell? ⟨gz, 50, none⟩ = some (.int .u8 0) := RI.out.2.2.1.b8 50 (obs1_zero _ _ _ _ (by omega) (by omega)) rfl
   have f0 : wr.frozen? ⟨gz, 50, none⟩ = false := RI.out.2.2.1.free _
   have ES := Lib.hid hS
   clear hS
   go_wp2_with fail
   go_region
   go_wp2_with fail
   clear c1 c2 rS z0 f0
   go_roundw
   case rel => exact ⟨51, by omega, rfl, Lib.hid (OutR.next 50 RI.out EY.out EX.out EO.out LZ.out _ (ob2 L M 12 S (by rw [EA.out, EB.out]; exact ES.out)))⟩
   case measure => simp [intOf]
  ·have c1 : wr.cell? ⟨gy, 12, none⟩ = some (.int .u32 (M.getD 12 0 : Nat)) := RI.out.1.u32 12 (by rw [WM.out.1]; omega)
   have c2 : wr.cell? ⟨gx, 12, none⟩ = some (.int .u32 (L.getD 12 0 : Nat)) := RI.out.2.1.u32 12 (by rw [WF.out.1]; omega)
   generalize hA : M.getD 12 0 = A at c1
   generalize hB : L.getD 12 0 = B at c2
   have EA := Lib.hid hA
   have EB := Lib.hid hB
   clear hA hB
   have rS : ((A : Int) + (B : Int)) % 4294967296 = (((A + B) % 4294967296 : Nat) : Int) := by omega
   generalize hS : (A + B) % 4294967296 = S at rS
   have z0 : wr.cell? ⟨gz, 51, none⟩ = some (.int .u8 0) := RI.out.2.2.1.b8 51 (obs1_zero _ _ _ _ (by omega) (by omega)) rfl
   have f0 : wr.frozen? ⟨gz, 51, none⟩ = false := RI.out.2.2.1.free _
   have ES := Lib.hid hS
   clear hS
   go_wp2_with fail
   go_region
   go_wp2_with fail
   clear c1 c2 rS z0 f0
   go_roundw
   case rel => exact ⟨52, by omega, rfl, Lib.hid (OutR.next 51 RI.out EY.out EX.out EO.out LZ.out _ (ob3 L M 12 S (by rw [EA.out, EB.out]; exact ES.out)))⟩
   case measure => simp [intOf]
  ·have c1 : wr.cell? ⟨gy, 13, none⟩ = some (.int .u32 (M.getD 13 0 : Nat)) := RI.out.1.u32 13 (by rw [WM.out.1]; omega)
   have c2 : wr.cell? ⟨gx, 13, none⟩ = some (.int .u32 (L.getD 13 0 : Nat)) := RI.out.2.1.u32 13 (by rw [WF.out.1]; omega)
   generalize hA : M.getD 13 0 = A at c1
   generalize hB : L.getD 13 0 = B at c2
   have EA := Lib.hid hA
   have EB := Lib.hid hB
   clear hA hB
   have rS : ((A : Int) + (B : Int)) % 4294967296 = (((A + B) % 4294967296 : Nat) : Int) := by omega
   generalize hS : (A + B) % 4294967296 = S at rS
   have z0 : wr.cell? ⟨gz, 52, none⟩ = some (.int .u8 0) := RI.out.2.2.1.b8 52 (obs1_zero _ _ _ _ (by omega) (by omega)) rfl
   have f0 : wr.frozen? ⟨gz, 52, none⟩ = false := RI.out.2.2.1.free _
   have ES := Lib.hid hS
   clear hS
   go_wp2_with fail
   go_region
   go_wp2_with fail
   clear c1 c2 rS z0 f0
   go_roundw
   case rel => exact ⟨53, by omega, rfl, Lib.hid (OutR.next 52 RI.out EY.out EX.out EO.out LZ.out _ (ob0 L M 13 S (by rw [EA.out, EB.out]; exact ES.out)))⟩
   case measure => simp [intOf]
  ·have c1 : wr.cell? ⟨gy, 13, none⟩ = some (.int .u32 (M.getD 13 0 : Nat)) := RI.out.1.u32 13 (by rw [WM.out.1]; omega)
   have c2 : wr.cell? ⟨gx, 13, none⟩ = some (.int .u32 (L.getD 13 0 : Nat)) := RI.out.2.1.u32 13 (by rw [WF.out.1]; omega)
   generalize hA : M.getD 13 0 = A at c1
   generalize hB : L.getD 13 0 = B at c2
   have EA := Lib.hid hA
   have EB := Lib.hid hB
   clear hA hB
   have rS : ((A : Int) + (B : Int)) % 4294967296 = (((A + B) % 4294967296 : Nat) : Int) := by omega
   generalize hS : (A + B) % 4294967296 = S at rS
   have z0 : wr.cell? ⟨gz, 53, none⟩ = some (.int .u8 0) := RI.out.2.2.1.b8 53 (obs1_zero _ _ _ _ (by omega) (by omega)) rfl
   have f0 : wr.frozen? ⟨gz, 53, none⟩ = false := RI.out.2.2.1.free _
   have ES := Lib.hid hS
   clear hS
   go_wp2_with fail
   go_region
   go_wp2_with fail
   clear c1 c2 rS z0 f0
   go_roundw
   case rel => exact ⟨54, by omega, rfl, Lib.hid (OutR.next 53 RI.out EY.out EX.out EO.out LZ.out _ (ob1 L M 13 S (by rw [EA.out, EB.out]; exact ES.out)))⟩
   case measure => simp [intOf]
  ·have c1 : wr.cell? ⟨gy, 13, none⟩ = some (.int .u32 (M.getD 13 0 : Nat)) := RI.out.1.u32 13 (by rw [WM.out.1]; omega)
   have c2 : wr.cell? ⟨gx, 13, none⟩ = some (.int .u32 (L.getD 13 0 : Nat)) := RI.out.2.1.u32 13 (by rw [WF.out.1]; omega)
   generalize hA : M.getD 13 0 = A at c1
   generalize hB : L.getD 13 0 = B at c2
   have EA := Lib.hid hA
   have EB := Lib.hid hB
   clear hA hB
   have rS : ((A : Int) + (B : Int)) % 4294967296 = (((A + B) % 4294967296 : Nat) : Int) := by omega
   generalize hS : (A + B) % 4294967296 = S at rS
   have z0 : wr.cell? ⟨gz, 54, none⟩ = some (.int .u8 0) := RI.out.2.2.1.b8 54 (obs1_zero _ _ _ _ (by omega) (by omega)) rfl
   have f0 : wr.frozen? ⟨gz, 54, none⟩ = false := RI.out.2.2.1.free _
   have ES := Lib.hid hS
   clear hS
   go_wp2_with fail
   go_region
   go_wp2_with fail
   clear c1 c2 rS z0 f0
   go_roundw
   case rel => exact ⟨55, by omega, rfl, Lib.hid (OutR.next 54 RI.out EY.out EX.out EO.out LZ.out _ (ob2 L M 13 S (by rw [EA.out, EB.out]; exact ES.out)))⟩
   case measure => simp [intOf]
  ·have c1 : wr.cell? ⟨gy, 13, none⟩ = some (.int .u32 (M.getD 13 0 : Nat)) := RI.out.1.u32 13 (by rw [WM.out.1]; omega)
   have c2 : wr.cell? ⟨gx, 13, none⟩ = some (.int .u32 (L.getD 13 0 : Nat)) := RI.out.2.1.u32 13 (by rw [WF.out.1]; omega)
   generalize hA : M.getD 13 0 = A at c1
   generalize hB : L.getD 13 0 = B at c2
   have EA := Lib.hid hA
   have EB := Lib.hid hB
   clear hA hB
   have rS : ((A : Int) + (B : Int)) % 4294967296 = (((A + B) % 4294967296 : Nat) : Int) := by omega
   generalize hS : (A + B) % 4294967296 = S at rS
   have z0 : wr.cell? ⟨gz, 55, none⟩ = some (.int .u8 0) := RI.out.2.2.1.b8 55 (obs1_zero _ _ _ _ (by omega) (by omega)) rfl
   have f0 : wr.frozen? ⟨gz, 55, none⟩ = false := RI.out.2.2.1.free _
   have ES := Lib.hid hS
   clear hS
   go_wp2_with fail
   go_region
   go_wp2_with fail
   clear c1 c2 rS z0 f0
   go_roundw
   case rel => exact ⟨56, by omega, rfl, Lib.hid (OutR.next 55 RI.out EY.out EX.out EO.out LZ.out _ (ob3 L M 13 S (by rw [EA.out, EB.out]; exact ES.out)))⟩
   case measure => simp [intOf]
  ·have c1 : wr.cell? ⟨gy, 14, none⟩ = some (.int .u32 (M.getD 14 0 : Nat)) := RI.out.1.u32 14 (by rw [WM.out.1]; omega)
   have c2 : wr.cell? ⟨gx, 14, none⟩ = some (.int .u32 (L.getD 14 0 : Nat)) := RI.out.2.1.u32 14 (by rw [WF.out.1]; omega)
   generalize hA : M.getD 14 0 = A at c1
   generalize hB : L.getD 14 0 = B at c2
   have EA := Lib.hid hA
   have EB := Lib.hid hB
   clear hA hB
   have rS : ((A : Int) + (B : Int)) % 4294967296 = (((A + B) % 4294967296 : Nat) : Int) := by omega
   generalize hS : (A + B) % 4294967296 = S at rS
   have z0 : wr.cell? ⟨gz, 56, none⟩ = some (.int .u8 0) := RI.out.2.2.1.b8 56 (obs1_zero _ _ _ _ (by omega) (by omega)) rfl
   have f0 : wr.frozen? ⟨gz, 56, none⟩ = false := RI.out.2.2.1.free _
   have ES := Lib.hid hS
   clear hS
   go_wp2_with fail
   go_region
   go_wp2_with fail
   clear c1 c2 rS z0 f0
   go_roundw
   case rel => exact ⟨57, by omega, rfl, Lib.hid (OutR.next 56 RI.out EY.out EX.out EO.out LZ.out _ (ob0 L M 14 S (by rw [EA.out, EB.out]; exact ES.out)))⟩
   case measure => simp [intOf]
  ·have c1 : wr.cell? ⟨gy, 14, none⟩ = some (.int .u32 (M.getD 14 0 : Nat)) := RI.out.1.u32 14 (by rw [WM.out.1]; omega)
   have c2 : wr.cell? ⟨gx, 14, none⟩ = some (.int .u32 (L.getD 14 0 : Nat)) := RI.out.2.1.u32 14 (by rw [WF.out.1]; omega)
   generalize hA : M.getD 14 0 = A at c1
   generalize hB : L.getD 14 0 = B at c2
   have EA := Lib.hid hA
   have EB := Lib.hid hB
   clear hA hB
   have rS : ((A : Int) + (B : Int)) % 4294967296 = (((A + B) % 4294967296 : Nat) : Int) := by omega
   generalize hS : (A + B) % 4294967296 = S at rS
   have z0 : wr.cell? ⟨gz, 57, none⟩ = some (.int .u8 0) := RI.out.2.2.1.b8 57 (obs1_zero _ _ _ _ (by omega) (by omega)) rfl
   have f0 : wr.frozen? ⟨gz, 57, none⟩ = false := RI.out.2.2.1.free _
   have ES := Lib.hid hS
   clear hS
   go_wp2_with fail
   go_region
   go_wp2_with fail
   clear c1 c2 rS z0 f0
   go_roundw
   case rel => exact ⟨58, by omega, rfl, Lib.hid (OutR.next 57 RI.out EY.out EX.out EO.out LZ.out _ (ob1 L M 14 S (by rw [EA.out, EB.out]; exact ES.out)))⟩
   case measure => simp [intOf]
  ·have c1 : wr.cell? ⟨gy, 14, none⟩ = some (.int .u32 (M.getD 14 0 : Nat)) := RI.out.1.u32 14 (by rw [WM.out.1]; omega)
   have c2 : wr.cell? ⟨gx, 14, none⟩ = some (.int .u32 (L.getD 14 0 : Nat)) := RI.out.2.1.u32 14 (by rw [WF.out.1]; omega)
   generalize hA : M.getD 14 0 = A at c1
   generalize hB : L.getD 14 0 = B at c2
   have EA := Lib.hid hA
   have EB := Lib.hid hB
   clear hA hB
   have rS : ((A : Int) + (B : Int)) % 4294967296 = (((A + B) % 4294967296 : Nat) : Int) := by omega
   generalize hS : (A + B) % 4294967296 = S at rS
   have z0 : wr.cell? ⟨gz, 58, none⟩ = some (.int .u8 0) := RI.out.2.2.1.b8 58 (obs1_zero _ _ _ _ (by omega) (by omega)) rfl
   have f0 : wr.frozen? ⟨gz, 58, none⟩ = false := RI.out.2.2.1.free _
   have ES := Lib.hid hS
   clear hS
   go_wp2_with fail
   go_region
   go_wp2_with fail
   clear c1 c2 rS z0 f0
   go_roundw
   case rel => exact ⟨59, by omega, rfl, Lib.hid (OutR.next 58 RI.out EY.out EX.out EO.out LZ.out _ (ob2 L M 14 S (by rw [EA.out, EB.out]; exact ES.out)))⟩
   case measure => simp [intOf]
  ·have c1 : wr.cell? ⟨gy, 14, none⟩ = some (.int .u32 (M.getD 14 0 : Nat)) := RI.out.1.u32 14 (by rw [WM.out.1]; omega)
   have c2 : wr.cell? ⟨gx, 14, none⟩ = some (.int .u32 (L.getD 14 0 : Nat)) := RI.out.2.1.u32 14 (by rw [WF.out.1]; omega)
   generalize hA : M.getD 14 0 = A at c1
   generalize hB : L.getD 14 0 = B at c2
   have EA := Lib.hid hA
   have EB := Lib.hid hB
   clear hA hB
   have rS : ((A : Int) + (B : Int)) % 4294967296 = (((A + B) % 4294967296 : Nat) : Int) := by omega
   generalize hS : (A + B) % 4294967296 = S at rS
   have z0 : wr.cell? ⟨gz, 59, none⟩ = some (.int .u8 0) := RI.out.2.2.1.b8 59 (obs1_zero _ _ _ _ (by omega) (by omega)) rfl
   have f0 : wr.frozen? ⟨gz, 59, none⟩ = false := RI.out.2.2.1.free _
   have ES := Lib.hid hS
   clear hS
   go_wp2_with fail
   go_region
   go_wp2_with fail
   clear c1 c2 rS z0 f0
   go_roundw
   case rel => exact ⟨60, by omega, rfl, Lib.hid (OutR.next 59 RI.out EY.out EX.out EO.out LZ.out _ (ob3 L M 14 S (by rw [EA.out, EB.out]; exact ES.out)))⟩
   case measure => simp [intOf]
  ·have c1 : wr.cell? ⟨gy, 15, none⟩ = some (.int .u32 (M.getD 15 0 : Nat)) := RI.out.1.u32 15 (by rw [WM.out.1]; omega)
   have c2 : wr.cell? ⟨gx, 15, none⟩ = some (.int .u32 (L.getD 15 0 : Nat)) := RI.out.2.1.u32 15 (by rw [WF.out.1]; omega)
   generalize hA : M.getD 15 0 = A at c1
   generalize hB : L.getD 15 0 = B at c2
   have EA := Lib.hid hA
   have EB := Lib.hid hB
   clear hA hB
   have rS : ((A : Int) + (B : Int)) % 4294967296 = (((A + B) % 4294967296 : Nat) : Int) := by omega
   generalize hS : (A + B) % 4294967296 = S at rS
   have z0 : wr.cell? ⟨gz, 60, none⟩ = some (.int .u8 0) := RI.out.2.2.1.b8 60 (obs1_zero _ _ _ _ (by omega) (by omega)) rfl
   have f0 : wr.frozen? ⟨gz, 60, none⟩ = false := RI.out.2.2.1.free _
   have ES := Lib.hid hS
   clear hS
   go_wp2_with fail
   go_region
   go_wp2_with fail
   clear c1 c2 rS z0 f0
   go_roundw
   case rel => exact ⟨61, by omega, rfl, Lib.hid (OutR.next 60 RI.out EY.out EX.out EO.out LZ.out _ (ob0 L M 15 S (by rw [EA.out, EB.out]; exact ES.out)))⟩
   case measure => simp [intOf]
  ·have c1 : wr.cell? ⟨gy, 15, none⟩ = some (.int .u32 (M.getD 15 0 : Nat)) := RI.out.1.u32 15 (by rw [WM.out.1]; omega)
   have c2 : wr.cell? ⟨gx, 15, none⟩ = some (.int .u32 (L.getD 15 0 : Nat)) := RI.out.2.1.u32 15 (by rw [WF.out.1]; omega)
   generalize hA : M.getD 15 0 = A at c1
   generalize hB : L.getD 15 0 = B at c2
   have EA := Lib.hid hA
   have EB := Lib.hid hB
   clear hA hB
   have rS : ((A : Int) + (B : Int)) % 4294967296 = (((A + B) % 4294967296 : Nat) : Int) := by omega
   generalize hS : (A + B) % 4294967296 = S at rS
   have z0 : wr.cell? ⟨gz, 61, none⟩ = some (.int .u8 0) := RI.out.2.2.1.b8 61 (obs1_zero _ _ _ _ (by omega) (by omega)) rfl
   have f0 : wr.frozen? ⟨gz, 61, none⟩ = false := RI.out.2.2.1.free _
   have ES := Lib.hid hS
   clear hS
   go_wp2_with fail
   go_region
   go_wp2_with fail
   clear c1 c2 rS z0 f0
   go_roundw
   case rel => exact ⟨62, by omega, rfl, Lib.hid (OutR.next 61 RI.out EY.out EX.out EO.out LZ.out _ (ob1 L M 15 S (by rw [EA.out, EB.out]; exact ES.out)))⟩
   case measure => simp [intOf]
  ·have c1 : wr.cell? ⟨gy, 15, none⟩ = some (.int .u32 (M.getD 15 0 : Nat)) := RI.out.1.u32 15 (by rw [WM.out.1]; omega)
   have c2 : wr.cell? ⟨gx, 15, none⟩ = some (.int .u32 (L.getD 15 0 : Nat)) := RI.out.2.1.u32 15 (by rw [WF.out.1]; omega)
   generalize hA : M.getD 15 0 = A at c1
   generalize hB : L.getD 15 0 = B at c2
   have EA := Lib.hid hA
   have EB := Lib.hid hB
   clear hA hB
   have rS : ((A : Int) + (B : Int)) % 4294967296 = (((A + B) % 4294967296 : Nat) : Int) := by omega
   generalize hS : (A + B) % 4294967296 = S at rS
   have z0 : wr.cell? ⟨gz, 62, none⟩ = some (.int .u8 0) := RI.out.2.2.1.b8 62 (obs1_zero _ _ _ _ (by omega) (by omega)) rfl
   have f0 : wr.frozen? ⟨gz, 62, none⟩ = false := RI.out.2.2.1.free _
   have ES := Lib.hid hS
   clear hS
   go_wp2_with fail
   go_region
   go_wp2_with fail
   clear c1 c2 rS z0 f0
   go_roundw
   case rel => exact ⟨63, by omega, rfl, Lib.hid (OutR.next 62 RI.out EY.out EX.out EO.out LZ.out _ (ob2 L M 15 S (by rw [EA.out, EB.out]; exact ES.out)))⟩
   case measure => simp [intOf]
  ·have c1 : wr.cell? ⟨gy, 15, none⟩ = some (.int .u32 (M.getD 15 0 : Nat)) := RI.out.1.u32 15 (by rw [WM.out.1]; omega)
   have c2 : wr.cell? ⟨gx, 15, none⟩ = some (.int .u32 (L.getD 15 0 : Nat)) := RI.out.2.1.u32 15 (by rw [WF.out.1]; omega)
   generalize hA : M.getD 15 0 = A at c1
   generalize hB : L.getD 15 0 = B at c2
   have EA := Lib.hid hA
   have EB := Lib.hid hB
   clear hA hB
   have rS : ((A : Int) + (B : Int)) % 4294967296 = (((A + B) % 4294967296 : Nat) : Int) := by omega
   generalize hS : (A + B) % 4294967296 = S at rS
   have z0 : wr.cell? ⟨gz, 63, none⟩ = some (.int .u8 0) := RI.out.2.2.1.b8 63 (obs1_zero _ _ _ _ (by omega) (by omega)) rfl
   have f0 : wr.frozen? ⟨gz, 63, none⟩ = false := RI.out.2.2.1.free _
   have ES := Lib.hid hS
   clear hS
   go_wp2_with fail
   go_region
   go_wp2_with fail
   clear c1 c2 rS z0 f0
   go_roundw
   case rel => exact ⟨64, by omega, rfl, Lib.hid (OutR.next 63 RI.out EY.out EX.out EO.out LZ.out _ (ob3 L M 15 S (by rw [EA.out, EB.out]; exact ES.out)))⟩
   case measure => simp [intOf]
  ·obtain ⟨RY, RX, RO', RZ', BW'⟩ := RI.out
   have RO : Hid (Blk wr gz 53 (u8b (obs L M 16))) := Lib.hid (by rw [← obs1_all]; exact RO')
   have RZ := Lib.hid RZ'
   have BW := Lib.hid BW'
   have hz : (Tryd.prog.info? 53).map (·.size) = some (u8b (obs L M 16)).size := by rw [obs_size]; kernel_rfl
   have hZ := Lib.hid hz
   clear hz
   have hs : (#[.int .u8 0, .int .u8 0, .int .u8 0, .int .u8 0, .int .u8 0, .int .u8 0, .int .u8 0, .int .u8 0, .int .u8 0, .int .u8 0, .int .u8 0, .int .u8 0, .int .u8 0, .int .u8 0, .int .u8 0, .int .u8 0, .int .u8 0, .int .u8 0, .int .u8 0, .int .u8 0, .int .u8 0, .int .u8 0, .int .u8 0, .int .u8 0, .int .u8 0, .int .u8 0, .int .u8 0, .int .u8 0, .int .u8 0, .int .u8 0, .int .u8 0, .int .u8 0, .int .u8 0, .int .u8 0, .int .u8 0, .int .u8 0, .int .u8 0, .int .u8 0, .int .u8 0, .int .u8 0, .int .u8 0, .int .u8 0, .int .u8 0, .int .u8 0, .int .u8 0, .int .u8 0, .int .u8 0, .int .u8 0, .int .u8 0, .int .u8 0, .int .u8 0, .int .u8 0, .int .u8 0, .int .u8 0, .int .u8 0, .int .u8 0, .int .u8 0, .int .u8 0, .int .u8 0, .int .u8 0, .int .u8 0, .int .u8 0, .int .u8 0, .int .u8 0] : Array Value).size = (u8b (obs L M 16)).size := by rw [obs_size]; rfl
   have hS := Lib.hid hs
   clear hs RY RX RO' RZ' BW'
   go_wp2_with (first | (refine wpList_load_row rfl 53 _ rfl gz rfl 53 _ (0, 0) _ RO.out Tryd.underlying53 rfl hZ.out ?_) | (refine wpList_store_row rfl 53 _ _ rfl g6 _ rfl rfl 53 _ RZ.out hZ.out hS.out (u8b_one _) ?_))
   refine bodyPost_ret (results_cell_row rfl _ _ g6 53 _ (0, 0) _ rfl (setRow_heap _ _ _ _ _ _ RZ.out) Tryd.underlying53 rfl hZ.out) rfl ⟨?_, ?_⟩
   ·rw [EL.out, EM.out]
   ·rw [EK.out]; exact below_setRow BW.out D4.out _
end Go.Proofs.YtlbfohpkngmaoaaDoor.Ch
