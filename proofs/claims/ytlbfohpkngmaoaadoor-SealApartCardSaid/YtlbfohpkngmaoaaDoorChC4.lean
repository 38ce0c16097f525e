import Derived.Test.YtlbfohpkngmaoaaDoorChC2
import Derived.Laws.Tables
import Derived.Laws.Rows
import Derived.Laws.CopyOwn
namespace Go.Proofs.YtlbfohpkngmaoaaDoor.Ch
open Go.RowKit
theorem below_alloc' {B : Nat} {a w : World} (h : Below B a w) (hB : B ≤ a.heap.size) (o : Obj) : Below B a (w.alloc o) := h.alloc (Nat.le_trans hB h.size) o
theorem below_drewN' {B : Nat} {a w : World} (h : Below B a w) (n : Nat) : Below B a (w.drewN n) := ⟨h.os, h.tape, h.output, h.size, h.block⟩
def u8s (n : Nat) (f : Nat → Nat) : Array Value := ((List.range n).map fun (j : Nat) => Value.int .u8 (f j : Int)).toArray
def u32s (l : List Nat) : Array Value := (l.map fun (n : Nat) => Value.int .u32 (n : Int)).toArray
def Blk (w : World) (g : Nat) (t : TypeId) (cs : Array Value) : Prop := w.heap[g]? = some (.cells cs t (0, 0))
theorem Blk.u8 {w : World} {g t n : Nat} {f : Nat → Nat} (h : Blk w g t (u8s n f)) (j : Nat) (hj : j < n) : w.cell? ⟨g, j, none⟩ = some (.int .u8 (f j : Nat)) := by
 rw [cell_of_row w _ _ _ _ _ h]
 simp [u8s, List.getElem?_range hj]
theorem Blk.u32 {w : World} {g t : Nat} {X : List Nat} (h : Blk w g t (u32s X)) (j : Nat) (hj : j < X.length) : w.cell? ⟨g, j, none⟩ = some (.int .u32 (X.getD j 0 : Nat)) := by
 rw [cell_of_row w _ _ _ _ _ h]
 simp [u32s, List.getD, List.getElem?_eq_getElem hj]
theorem u32s_size (L : List Nat) : (u32s L).size = L.length := by simp [u32s]
theorem u32s_one (L : List Nat) : (u32s L).all (·.oneCell') = true := by simp [u32s, Value.oneCell']
theorem Blk.free {w : World} {g t : Nat} {cs : Array Value} (h : Blk w g t cs) (j : Nat) : w.frozen? ⟨g, j, none⟩ = false := frozen_of_row w g j cs t h
theorem Blk.far {w : World} {g t : Nat} {cs : Array Value} (h : Blk w g t cs) {g' : Nat} (hne : g ≠ g') (o m : Nat) (v : Value) : Blk ((w.drewN m).setCell ⟨g', o, none⟩ v) g t cs := (heap_setCell_other _ _ _ _ hne).trans h
theorem Blk.set32 {w : World} {g t : Nat} {L : List Nat} (h : Blk w g t (u32s L)) (o m v : Nat) : Blk ((w.drewN m).setCell ⟨g, o, none⟩ (.int .u32 (v : Int))) g t (u32s (L.set o v)) := by
 have e := heap_setCell_same (w.drewN m) g o (u32s L) t (.int .u32 (v : Int)) h
 have e2 : (u32s L).setIfInBounds o (.int .u32 (v : Int)) = u32s (L.set o v) := by simp [u32s, List.map_set]
 rw [← e2]
 exact e
theorem below_set {B : Nat} {a w : World} (h : Below B a w) {g : Nat} (hg : B ≤ g) (o m : Nat) (v : Value) : Below B a ((w.drewN m).setCell ⟨g, o, none⟩ v) := (below_drewN' h m).setCell hg v
theorem Blk.lt {w : World} {g t : Nat} {cs : Array Value} (h : Blk w g t cs) : g < w.heap.size := by
 rcases Nat.lt_or_ge g w.heap.size with h1 | h1
 ·exact h1
 ·unfold Blk at h; rw [Array.getElem?_eq_none h1] at h; cases h
theorem Blk.alloc {w : World} {g t : Nat} {cs : Array Value} (h : Blk w g t cs) (o : Obj) : Blk (w.alloc o) g t cs := (Below.heap_alloc w o g h.lt).trans h
theorem Blk.new (w : World) (t : TypeId) (cs : Array Value) : Blk (w.alloc (.cells cs t)) w.heap.size t cs := heap_alloc_new w _
theorem Blk.new' (w : World) (t : TypeId) (cs : Array Value) (n : Nat) (hn : n = w.heap.size) : Blk (w.alloc (.cells cs t)) n t cs := by rw [hn]; exact heap_alloc_new w _
theorem blk0 (w : World) (A B C D : Array Value) (s t u v : TypeId) : Blk ((((w.alloc (.cells A s)).alloc (.cells B t)).alloc (.cells C u)).alloc (.cells D v)) w.heap.size s A ∧
  Blk ((((w.alloc (.cells A s)).alloc (.cells B t)).alloc (.cells C u)).alloc (.cells D v)) (w.heap.size + 1) t B ∧ Blk ((((w.alloc (.cells A s)).alloc (.cells B t)).alloc (.cells C u)).alloc (.cells D v)) (w.heap.size + 1 + 1) u C ∧
  Blk ((((w.alloc (.cells A s)).alloc (.cells B t)).alloc (.cells C u)).alloc (.cells D v)) (w.heap.size + 1 + 1 + 1) v D :=
 ⟨(((Blk.new _ _ _).alloc _).alloc _).alloc _, ((Blk.new' _ _ _ _ (by simp)).alloc _).alloc _, (Blk.new' _ _ _ _ (by simp)).alloc _, Blk.new' _ _ _ _ (by simp)⟩
set_option maxHeartbeats 4000000 in
theorem state_any (X Y : Nat → Nat) (c : Nat) (bX : ∀ j, X j < 256) (bY : ∀ j, Y j < 256) (w : World) :
  Calls Tryd.prog 32 #[.agg (u8s 32 X), .agg (u8s 12 Y), .int .u32 (c : Int)] w fun e w' => e = .returned (.agg (u32s [1634760805, 857760878, 2036477234, 1797285236, (le4 (X 0) (X 1) (X 2) (X 3)), (le4 (X 4) (X 5) (X 6) (X 7)), (le4 (X 8) (X 9) (X 10) (X 11)), (le4 (X 12) (X 13) (X 14) (X 15)), (le4 (X 16) (X 17) (X 18) (X 19)), (le4 (X 20) (X 21) (X 22) (X 23)), (le4 (X 24) (X 25) (X 26) (X 27)), (le4 (X 28) (X 29) (X 30) (X 31)), c, (le4 (Y 0) (Y 1) (Y 2) (Y 3)), (le4 (Y 4) (Y 5) (Y 6) (Y 7)), (le4 (Y 8) (Y 9) (Y 10) (Y 11))])) ∧ Below w.heap.size w w' := by
 have BX := Lib.hid bX
 have BY := Lib.hid bY
 clear bX bY
 go_enter Tryd.func32, Tryd.ntmps32
 go_wp2
 obtain ⟨W0, hW0⟩ : ∃ W0, W0 = (((w.alloc (.cells (u8s 32 X) 23)).alloc (.cells (u8s 12 Y) 27)).alloc (.cells #[.int .u32 0, .int .u32 0, .int .u32 0, .int .u32 0, .int .u32 0, .int .u32 0, .int .u32 0, .int .u32 0, .int .u32 0, .int .u32 0, .int .u32 0, .int .u32 0, .int .u32 0, .int .u32 0, .int .u32 0, .int .u32 0] 77)).alloc (.cells #[.int .u32 1634760805, .int .u32 857760878, .int .u32 2036477234, .int .u32 1797285236, .int .u32 0, .int .u32 0, .int .u32 0, .int .u32 0, .int .u32 0, .int .u32 0, .int .u32 0, .int .u32 0, .int .u32 0, .int .u32 0, .int .u32 0, .int .u32 0] 77) := ⟨_, rfl⟩
 rw [← hW0]
 have r4 := blk0 w (u8s 32 X) (u8s 12 Y) #[.int .u32 0, .int .u32 0, .int .u32 0, .int .u32 0, .int .u32 0, .int .u32 0, .int .u32 0, .int .u32 0, .int .u32 0, .int .u32 0, .int .u32 0, .int .u32 0, .int .u32 0, .int .u32 0, .int .u32 0, .int .u32 0] #[.int .u32 1634760805, .int .u32 857760878, .int .u32 2036477234, .int .u32 1797285236, .int .u32 0, .int .u32 0, .int .u32 0, .int .u32 0, .int .u32 0, .int .u32 0, .int .u32 0, .int .u32 0, .int .u32 0, .int .u32 0, .int .u32 0, .int .u32 0] 23 27 77 77
 rw [← hW0] at r4
 obtain ⟨rk, rn, rz, rx'⟩ := r4
 have rx : Blk W0 (w.heap.size + 1 + 1 + 1) 77 (u32s [1634760805, 857760878, 2036477234, 1797285236, 0, 0, 0, 0, 0, 0, 0, 0, 0, 0, 0, 0]) := rx'
 clear rx'
 have bw : Below w.heap.size w W0 := by
  rw [hW0]
  repeat (first | exact Below.refl _ _ | refine below_alloc' ?_ (Nat.le_refl _) _)
 have d0 : w.heap.size ≠ w.heap.size + 1 + 1 + 1 := by omega
 have d1 : w.heap.size + 1 ≠ w.heap.size + 1 + 1 + 1 := by omega
 have d2 : w.heap.size + 1 + 1 ≠ w.heap.size + 1 + 1 + 1 := by omega
 have d3 : w.heap.size ≤ w.heap.size + 1 + 1 + 1 := by omega
 have d4 : w.heap.size ≤ w.heap.size + 1 + 1 := by omega
 have RK := Lib.hid rk
 have RN := Lib.hid rn
 have RZ := Lib.hid rz
 have RX := Lib.hid rx
 have BW := Lib.hid bw
 have D0 := Lib.hid d0
 have D1 := Lib.hid d1
 have D2 := Lib.hid d2
 have D3 := Lib.hid d3
 have D4 := Lib.hid d4
 clear hW0 rk rn rz rx bw d0 d1 d2 d3 d4
 generalize w.heap.size + 1 + 1 + 1 = gx at *
 generalize w.heap.size + 1 + 1 = g6 at *
 generalize w.heap.size + 1 = gn at *
 generalize hgk : w.heap.size = gk at *
 have EK := Lib.hid hgk
 clear hgk
 refine wp_loop_rounds 9 ?_
 rw [rounds_succ]
 go_wp2_with fail
 refine (word_any _ gk 0 _ _ _ _ _ _ (RK.out.u8 0 (by omega)) (RK.out.u8 1 (by omega)) (RK.out.u8 2 (by omega)) (RK.out.u8 3 (by omega)) (by omega) (BX.out _) (BX.out _) (BX.out _) (BX.out _)).mono ?_
 rintro e w' ⟨rfl, m, rfl⟩
 have cx : (W0.drewN m).cell? ⟨gx, 4, none⟩ = some (.int .u32 0) := RX.out.u32 4 (by simp)
 have fx : (W0.drewN m).frozen? ⟨gx, 4, none⟩ = false := RX.out.free 4
 go_wp2_with fail
 clear cx fx
 obtain ⟨W1, hW⟩ : ∃ V, V = (W0.drewN m).setCell ⟨gx, 4, none⟩ (.int .u32 (((le4 (X 0) (X 1) (X 2) (X 3)) : Nat) : Int)) := ⟨_, rfl⟩
 rw [← hW]
 replace RK : Hid (Blk W1 gk 23 (u8s 32 X)) := Lib.hid (by rw [hW]; exact RK.out.far D0.out 4 m _)
 replace RN : Hid (Blk W1 gn 27 (u8s 12 Y)) := Lib.hid (by rw [hW]; exact RN.out.far D1.out 4 m _)
 replace RZ : Hid (Blk W1 g6 77 #[.int .u32 0, .int .u32 0, .int .u32 0, .int .u32 0, .int .u32 0, .int .u32 0, .int .u32 0, .int .u32 0, .int .u32 0, .int .u32 0, .int .u32 0, .int .u32 0, .int .u32 0, .int .u32 0, .int .u32 0, .int .u32 0]) := Lib.hid (by rw [hW]; exact RZ.out.far D2.out 4 m _)
 replace RX : Hid (Blk W1 gx 77 (u32s [1634760805, 857760878, 2036477234, 1797285236, (le4 (X 0) (X 1) (X 2) (X 3)), 0, 0, 0, 0, 0, 0, 0, 0, 0, 0, 0])) := Lib.hid (by rw [hW]; exact RX.out.set32 4 m (le4 (X 0) (X 1) (X 2) (X 3)))
 replace BW : Hid (Below gk w W1) := Lib.hid (by rw [hW]; exact below_set BW.out D3.out 4 m _)
 clear hW
 rw [rounds_succ]
 go_wp2_with fail
 refine (word_any _ gk 4 _ _ _ _ _ _ (RK.out.u8 4 (by omega)) (RK.out.u8 5 (by omega)) (RK.out.u8 6 (by omega)) (RK.out.u8 7 (by omega)) (by omega) (BX.out _) (BX.out _) (BX.out _) (BX.out _)).mono ?_
 rintro e w' ⟨rfl, m, rfl⟩
 have cx : (W1.drewN m).cell? ⟨gx, 5, none⟩ = some (.int .u32 0) := RX.out.u32 5 (by simp)
 have fx : (W1.drewN m).frozen? ⟨gx, 5, none⟩ = false := RX.out.free 5
 go_wp2_with fail
 clear cx fx
 obtain ⟨W2, hW⟩ : ∃ V, V = (W1.drewN m).setCell ⟨gx, 5, none⟩ (.int .u32 (((le4 (X 4) (X 5) (X 6) (X 7)) : Nat) : Int)) := ⟨_, rfl⟩
 rw [← hW]
 replace RK : Hid (Blk W2 gk 23 (u8s 32 X)) := Lib.hid (by rw [hW]; exact RK.out.far D0.out 5 m _)
 replace RN : Hid (Blk W2 gn 27 (u8s 12 Y)) := Lib.hid (by rw [hW]; exact RN.out.far D1.out 5 m _)
 replace RZ : Hid (Blk W2 g6 77 #[.int .u32 0, .int .u32 0, .int .u32 0, .int .u32 0, .int .u32 0, .int .u32 0, .int .u32 0, .int .u32 0, .int .u32 0, .int .u32 0, .int .u32 0, .int .u32 0, .int .u32 0, .int .u32 0, .int .u32 0, .int .u32 0]) := Lib.hid (by rw [hW]; exact RZ.out.far D2.out 5 m _)
 replace RX : Hid (Blk W2 gx 77 (u32s [1634760805, 857760878, 2036477234, 1797285236, (le4 (X 0) (X 1) (X 2) (X 3)), (le4 (X 4) (X 5) (X 6) (X 7)), 0, 0, 0, 0, 0, 0, 0, 0, 0, 0])) := Lib.hid (by rw [hW]; exact RX.out.set32 5 m (le4 (X 4) (X 5) (X 6) (X 7)))
 replace BW : Hid (Below gk w W2) := Lib.hid (by rw [hW]; exact below_set BW.out D3.out 5 m _)
 clear hW
 rw [rounds_succ]
 go_wp2_with fail
 refine (word_any _ gk 8 _ _ _ _ _ _ (RK.out.u8 8 (by omega)) (RK.out.u8 9 (by omega)) (RK.out.u8 10 (by omega)) (RK.out.u8 11 (by omega)) (by omega) (BX.out _) (BX.out _) (BX.out _) (BX.out _)).mono ?_
 rintro e w' ⟨rfl, m, rfl⟩
 have cx : (W2.drewN m).cell? ⟨gx, 6, none⟩ = some (.int .u32 0) := RX.out.u32 6 (by simp)
 have fx : (W2.drewN m).frozen? ⟨gx, 6, none⟩ = false := RX.out.free 6
 go_wp2_with fail
 clear cx fx
 obtain ⟨W3, hW⟩ : ∃ V, V = (W2.drewN m).setCell ⟨gx, 6, none⟩ (.int .u32 (((le4 (X 8) (X 9) (X 10) (X 11)) : Nat) : Int)) := ⟨_, rfl⟩
 rw [← hW]
 replace RK : Hid (Blk W3 gk 23 (u8s 32 X)) := Lib.hid (by rw [hW]; exact RK.out.far D0.out 6 m _)
 replace RN : Hid (Blk W3 gn 27 (u8s 12 Y)) := Lib.hid (by rw [hW]; exact RN.out.far D1.out 6 m _)
 replace RZ : Hid (Blk W3 g6 77 #[.int .u32 0, .int .u32 0, .int .u32 0, .int .u32 0, .int .u32 0, .int .u32 0, .int .u32 0, .int .u32 0, .int .u32 0, .int .u32 0, .int .u32 0, .int .u32 0, .int .u32 0, .int .u32 0, .int .u32 0, .int .u32 0]) := Lib.hid (by rw [hW]; exact RZ.out.far D2.out 6 m _)
 replace RX : Hid (Blk W3 gx 77 (u32s [1634760805, 857760878, 2036477234, 1797285236, (le4 (X 0) (X 1) (X 2) (X 3)), (le4 (X 4) (X 5) (X 6) (X 7)), (le4 (X 8) (X 9) (X 10) (X 11)), 0, 0, 0, 0, 0, 0, 0, 0, 0])) := Lib.hid (by rw [hW]; exact RX.out.set32 6 m (le4 (X 8) (X 9) (X 10) (X 11)))
 replace BW : Hid (Below gk w W3) := Lib.hid (by rw [hW]; exact below_set BW.out D3.out 6 m _)
 clear hW
 rw [rounds_succ]
 go_wp2_with fail
 refine (word_any _ gk 12 _ _ _ _ _ _ (RK.out.u8 12 (by omega)) (RK.out.u8 13 (by omega)) (RK.out.u8 14 (by omega)) (RK.out.u8 15 (by omega)) (by omega) (BX.out _) (BX.out _) (BX.out _) (BX.out _)).mono ?_
 rintro e w' ⟨rfl, m, rfl⟩
 have cx : (W3.drewN m).cell? ⟨gx, 7, none⟩ = some (.int .u32 0) := RX.out.u32 7 (by simp)
 have fx : (W3.drewN m).frozen? ⟨gx, 7, none⟩ = false := RX.out.free 7
 go_wp2_with fail
 clear cx fx
 obtain ⟨W4, hW⟩ : ∃ V, V = (W3.drewN m).setCell ⟨gx, 7, none⟩ (.int .u32 (((le4 (X 12) (X 13) (X 14) (X 15)) : Nat) : Int)) := ⟨_, rfl⟩
 rw [← hW]
 replace RK : Hid (Blk W4 gk 23 (u8s 32 X)) := Lib.hid (by rw [hW]; exact RK.out.far D0.out 7 m _)
 replace RN : Hid (Blk W4 gn 27 (u8s 12 Y)) := Lib.hid (by rw [hW]; exact RN.out.far D1.out 7 m _)
 replace RZ : Hid (Blk W4 g6 77 #[.int .u32 0, .int .u32 0, .int .u32 0, .int .u32 0, .int .u32 0, .int .u32 0, .int .u32 0, .int .u32 0, .int .u32 0, .int .u32 0, .int .u32 0, .int .u32 0, .int .u32 0, .int .u32 0, .int .u32 0, .int .u32 0]) := Lib.hid (by rw [hW]; exact RZ.out.far D2.out 7 m _)
 replace RX : Hid (Blk W4 gx 77 (u32s [1634760805, 857760878, 2036477234, 1797285236, (le4 (X 0) (X 1) (X 2) (X 3)), (le4 (X 4) (X 5) (X 6) (X 7)), (le4 (X 8) (X 9) (X 10) (X 11)), (le4 (X 12) (X 13) (X 14) (X 15)), 0, 0, 0, 0, 0, 0, 0, 0])) := Lib.hid (by rw [hW]; exact RX.out.set32 7 m (le4 (X 12) (X 13) (X 14) (X 15)))
 replace BW : Hid (Below gk w W4) := Lib.hid (by rw [hW]; exact below_set BW.out D3.out 7 m _)
 clear hW
 rw [rounds_succ]
 go_wp2_with fail
 refine (word_any _ gk 16 _ _ _ _ _ _ (RK.out.u8 16 (by omega)) (RK.out.u8 17 (by omega)) (RK.out.u8 18 (by omega)) (RK.out.u8 19 (by omega)) (by omega) (BX.out _) (BX.out _) (BX.out _) (BX.out _)).mono ?_
 rintro e w' ⟨rfl, m, rfl⟩
 have cx : (W4.drewN m).cell? ⟨gx, 8, none⟩ = some (.int .u32 0) := RX.out.u32 8 (by simp)
 have fx : (W4.drewN m).frozen? ⟨gx, 8, none⟩ = false := RX.out.free 8
 go_wp2_with fail
 clear cx fx
 obtain ⟨W5, hW⟩ : ∃ V, V = (W4.drewN m).setCell ⟨gx, 8, none⟩ (.int .u32 (((le4 (X 16) (X 17) (X 18) (X 19)) : Nat) : Int)) := ⟨_, rfl⟩
 rw [← hW]
 replace RK : Hid (Blk W5 gk 23 (u8s 32 X)) := Lib.hid (by rw [hW]; exact RK.out.far D0.out 8 m _)
 replace RN : Hid (Blk W5 gn 27 (u8s 12 Y)) := Lib.hid (by rw [hW]; exact RN.out.far D1.out 8 m _)
 replace RZ : Hid (Blk W5 g6 77 #[.int .u32 0, .int .u32 0, .int .u32 0, .int .u32 0, .int .u32 0, .int .u32 0, .int .u32 0, .int .u32 0, .int .u32 0, .int .u32 0, .int .u32 0, .int .u32 0, .int .u32 0, .int .u32 0, .int .u32 0, .int .u32 0]) := Lib.hid (by rw [hW]; exact RZ.out.far D2.out 8 m _)
 replace RX : Hid (Blk W5 gx 77 (u32s [1634760805, 857760878, 2036477234, 1797285236, (le4 (X 0) (X 1) (X 2) (X 3)), (le4 (X 4) (X 5) (X 6) (X 7)), (le4 (X 8) (X 9) (X 10) (X 11)), (le4 (X 12) (X 13) (X 14) (X 15)), (le4 (X 16) (X 17) (X 18) (X 19)), 0, 0, 0, 0, 0, 0, 0])) := Lib.hid (by rw [hW]; exact RX.out.set32 8 m (le4 (X 16) (X 17) (X 18) (X 19)))
 replace BW : Hid (Below gk w W5) := Lib.hid (by rw [hW]; exact below_set BW.out D3.out 8 m _)
 clear hW
 rw [rounds_succ]
 go_wp2_with fail
 refine (word_any _ gk 20 _ _ _ _ _ _ (RK.out.u8 20 (by omega)) (RK.out.u8 21 (by omega)) (RK.out.u8 22 (by omega)) (RK.out.u8 23 (by omega)) (by omega) (BX.out _) (BX.out _) (BX.out _) (BX.out _)).mono ?_
 rintro e w' ⟨rfl, m, rfl⟩
 have cx : (W5.drewN m).cell? ⟨gx, 9, none⟩ = some (.int .u32 0) := RX.out.u32 9 (by simp)
 have fx : (W5.drewN m).frozen? ⟨gx, 9, none⟩ = false := RX.out.free 9
 go_wp2_with fail
 clear cx fx
 obtain ⟨W6, hW⟩ : ∃ V, V = (W5.drewN m).setCell ⟨gx, 9, none⟩ (.int .u32 (((le4 (X 20) (X 21) (X 22) (X 23)) : Nat) : Int)) := ⟨_, rfl⟩
 rw [← hW]
 replace RK : Hid (Blk W6 gk 23 (u8s 32 X)) := Lib.hid (by rw [hW]; exact RK.out.far D0.out 9 m _)
 replace RN : Hid (Blk W6 gn 27 (u8s 12 Y)) := Lib.hid (by rw [hW]; exact RN.out.far D1.out 9 m _)
 replace RZ : Hid (Blk W6 g6 77 #[.int .u32 0, .int .u32 0, .int .u32 0, .int .u32 0, .int .u32 0, .int .u32 0, .int .u32 0, .int .u32 0, .int .u32 0, .int .u32 0, .int .u32 0, .int .u32 0, .int .u32 0, .int .u32 0, .int .u32 0, .int .u32 0]) := Lib.hid (by rw [hW]; exact RZ.out.far D2.out 9 m _)
 replace RX : Hid (Blk W6 gx 77 (u32s [1634760805, 857760878, 2036477234, 1797285236, (le4 (X 0) (X 1) (X 2) (X 3)), (le4 (X 4) (X 5) (X 6) (X 7)), (le4 (X 8) (X 9) (X 10) (X 11)), (le4 (X 12) (X 13) (X 14) (X 15)), (le4 (X 16) (X 17) (X 18) (X 19)), (le4 (X 20) (X 21) (X 22) (X 23)), 0, 0, 0, 0, 0, 0])) := Lib.hid (by rw [hW]; exact RX.out.set32 9 m (le4 (X 20) (X 21) (X 22) (X 23)))
 replace BW : Hid (Below gk w W6) := Lib.hid (by rw [hW]; exact below_set BW.out D3.out 9 m _)
 clear hW
 rw [rounds_succ]
 go_wp2_with fail
 refine (word_any _ gk 24 _ _ _ _ _ _ (RK.out.u8 24 (by omega)) (RK.out.u8 25 (by omega)) (RK.out.u8 26 (by omega)) (RK.out.u8 27 (by omega)) (by omega) (BX.out _) (BX.out _) (BX.out _) (BX.out _)).mono ?_
 rintro e w' ⟨rfl, m, rfl⟩
 have cx : (W6.drewN m).cell? ⟨gx, 10, none⟩ = some (.int .u32 0) := RX.out.u32 10 (by simp)
 have fx : (W6.drewN m).frozen? ⟨gx, 10, none⟩ = false := RX.out.free 10
 go_wp2_with fail
 clear cx fx
 obtain ⟨W7, hW⟩ : ∃ V, V = (W6.drewN m).setCell ⟨gx, 10, none⟩ (.int .u32 (((le4 (X 24) (X 25) (X 26) (X 27)) : Nat) : Int)) := ⟨_, rfl⟩
 rw [← hW]
 replace RK : Hid (Blk W7 gk 23 (u8s 32 X)) := Lib.hid (by rw [hW]; exact RK.out.far D0.out 10 m _)
 replace RN : Hid (Blk W7 gn 27 (u8s 12 Y)) := Lib.hid (by rw [hW]; exact RN.out.far D1.out 10 m _)
 replace RZ : Hid (Blk W7 g6 77 #[.int .u32 0, .int .u32 0, .int .u32 0, .int .u32 0, .int .u32 0, .int .u32 0, .int .u32 0, .int .u32 0, .int .u32 0, .int .u32 0, .int .u32 0, .int .u32 0, .int .u32 0, .int .u32 0, .int .u32 0, .int .u32 0]) := Lib.hid (by rw [hW]; exact RZ.out.far D2.out 10 m _)
 replace RX : Hid (Blk W7 gx 77 (u32s [1634760805, 857760878, 2036477234, 1797285236, (le4 (X 0) (X 1) (X 2) (X 3)), (le4 (X 4) (X 5) (X 6) (X 7)), (le4 (X 8) (X 9) (X 10) (X 11)), (le4 (X 12) (X 13) (X 14) (X 15)), (le4 (X 16) (X 17) (X 18) (X 19)), (le4 (X 20) (X 21) (X 22) (X 23)), (le4 (X 24) (X 25) (X 26) (X 27)), 0, 0, 0, 0, 0])) := Lib.hid (by rw [hW]; exact RX.out.set32 10 m (le4 (X 24) (X 25) (X 26) (X 27)))
 replace BW : Hid (Below gk w W7) := Lib.hid (by rw [hW]; exact below_set BW.out D3.out 10 m _)
 clear hW
 rw [rounds_succ]
 go_wp2_with fail
 refine (word_any _ gk 28 _ _ _ _ _ _ (RK.out.u8 28 (by omega)) (RK.out.u8 29 (by omega)) (RK.out.u8 30 (by omega)) (RK.out.u8 31 (by omega)) (by omega) (BX.out _) (BX.out _) (BX.out _) (BX.out _)).mono ?_
 rintro e w' ⟨rfl, m, rfl⟩
 have cx : (W7.drewN m).cell? ⟨gx, 11, none⟩ = some (.int .u32 0) := RX.out.u32 11 (by simp)
 have fx : (W7.drewN m).frozen? ⟨gx, 11, none⟩ = false := RX.out.free 11
 go_wp2_with fail
 clear cx fx
 obtain ⟨W8, hW⟩ : ∃ V, V = (W7.drewN m).setCell ⟨gx, 11, none⟩ (.int .u32 (((le4 (X 28) (X 29) (X 30) (X 31)) : Nat) : Int)) := ⟨_, rfl⟩
 rw [← hW]
 replace RK : Hid (Blk W8 gk 23 (u8s 32 X)) := Lib.hid (by rw [hW]; exact RK.out.far D0.out 11 m _)
 replace RN : Hid (Blk W8 gn 27 (u8s 12 Y)) := Lib.hid (by rw [hW]; exact RN.out.far D1.out 11 m _)
 replace RZ : Hid (Blk W8 g6 77 #[.int .u32 0, .int .u32 0, .int .u32 0, .int .u32 0, .int .u32 0, .int .u32 0, .int .u32 0, .int .u32 0, .int .u32 0, .int .u32 0, .int .u32 0, .int .u32 0, .int .u32 0, .int .u32 0, .int .u32 0, .int .u32 0]) := Lib.hid (by rw [hW]; exact RZ.out.far D2.out 11 m _)
 replace RX : Hid (Blk W8 gx 77 (u32s [1634760805, 857760878, 2036477234, 1797285236, (le4 (X 0) (X 1) (X 2) (X 3)), (le4 (X 4) (X 5) (X 6) (X 7)), (le4 (X 8) (X 9) (X 10) (X 11)), (le4 (X 12) (X 13) (X 14) (X 15)), (le4 (X 16) (X 17) (X 18) (X 19)), (le4 (X 20) (X 21) (X 22) (X 23)), (le4 (X 24) (X 25) (X 26) (X 27)), (le4 (X 28) (X 29) (X 30) (X 31)), 0, 0, 0, 0])) := Lib.hid (by rw [hW]; exact RX.out.set32 11 m (le4 (X 28) (X 29) (X 30) (X 31)))
 replace BW : Hid (Below gk w W8) := Lib.hid (by rw [hW]; exact below_set BW.out D3.out 11 m _)
 clear hW
 have cx : W8.cell? ⟨gx, 12, none⟩ = some (.int .u32 0) := RX.out.u32 12 (by simp)
 have fx : W8.frozen? ⟨gx, 12, none⟩ = false := RX.out.free 12
 rw [rounds_succ]
 go_wp2_with fail
 clear cx fx
 obtain ⟨W9, hW⟩ : ∃ V, V = (W8).setCell ⟨gx, 12, none⟩ (.int .u32 ((c : Nat) : Int)) := ⟨_, rfl⟩
 rw [← hW]
 replace RK : Hid (Blk W9 gk 23 (u8s 32 X)) := Lib.hid (by rw [hW]; exact RK.out.far D0.out 12 0 _)
 replace RN : Hid (Blk W9 gn 27 (u8s 12 Y)) := Lib.hid (by rw [hW]; exact RN.out.far D1.out 12 0 _)
 replace RZ : Hid (Blk W9 g6 77 #[.int .u32 0, .int .u32 0, .int .u32 0, .int .u32 0, .int .u32 0, .int .u32 0, .int .u32 0, .int .u32 0, .int .u32 0, .int .u32 0, .int .u32 0, .int .u32 0, .int .u32 0, .int .u32 0, .int .u32 0, .int .u32 0]) := Lib.hid (by rw [hW]; exact RZ.out.far D2.out 12 0 _)
 replace RX : Hid (Blk W9 gx 77 (u32s [1634760805, 857760878, 2036477234, 1797285236, (le4 (X 0) (X 1) (X 2) (X 3)), (le4 (X 4) (X 5) (X 6) (X 7)), (le4 (X 8) (X 9) (X 10) (X 11)), (le4 (X 12) (X 13) (X 14) (X 15)), (le4 (X 16) (X 17) (X 18) (X 19)), (le4 (X 20) (X 21) (X 22) (X 23)), (le4 (X 24) (X 25) (X 26) (X 27)), (le4 (X 28) (X 29) (X 30) (X 31)), c, 0, 0, 0])) := Lib.hid (by rw [hW]; exact RX.out.set32 12 0 c)
 replace BW : Hid (Below gk w W9) := Lib.hid (by rw [hW]; exact below_set BW.out D3.out 12 0 _)
 clear hW
 refine wp_loop_rounds 4 ?_
 rw [rounds_succ]
 go_wp2_with fail
 refine (word_any _ gn 0 _ _ _ _ _ _ (RN.out.u8 0 (by omega)) (RN.out.u8 1 (by omega)) (RN.out.u8 2 (by omega)) (RN.out.u8 3 (by omega)) (by omega) (BY.out _) (BY.out _) (BY.out _) (BY.out _)).mono ?_
 rintro e w' ⟨rfl, m, rfl⟩
 have cx : (W9.drewN m).cell? ⟨gx, 13, none⟩ = some (.int .u32 0) := RX.out.u32 13 (by simp)
 have fx : (W9.drewN m).frozen? ⟨gx, 13, none⟩ = false := RX.out.free 13
 go_wp2_with fail
 clear cx fx
 obtain ⟨W10, hW⟩ : ∃ V, V = (W9.drewN m).setCell ⟨gx, 13, none⟩ (.int .u32 (((le4 (Y 0) (Y 1) (Y 2) (Y 3)) : Nat) : Int)) := ⟨_, rfl⟩
 rw [← hW]
 replace RK : Hid (Blk W10 gk 23 (u8s 32 X)) := Lib.hid (by rw [hW]; exact RK.out.far D0.out 13 m _)
 replace RN : Hid (Blk W10 gn 27 (u8s 12 Y)) := Lib.hid (by rw [hW]; exact RN.out.far D1.out 13 m _)
 replace RZ : Hid (Blk W10 g6 77 #[.int .u32 0, .int .u32 0, .int .u32 0, .int .u32 0, .int .u32 0, .int .u32 0, .int .u32 0, .int .u32 0, .int .u32 0, .int .u32 0, .int .u32 0, .int .u32 0, .int .u32 0, .int .u32 0, .int .u32 0, .int .u32 0]) := Lib.hid (by rw [hW]; exact RZ.out.far D2.out 13 m _)
 replace RX : Hid (Blk W10 gx 77 (u32s [1634760805, 857760878, 2036477234, 1797285236, (le4 (X 0) (X 1) (X 2) (X 3)), (le4 (X 4) (X 5) (X 6) (X 7)), (le4 (X 8) (X 9) (X 10) (X 11)), (le4 (X 12) (X 13) (X 14) (X 15)), (le4 (X 16) (X 17) (X 18) (X 19)), (le4 (X 20) (X 21) (X 22) (X 23)), (le4 (X 24) (X 25) (X 26) (X 27)), (le4 (X 28) (X 29) (X 30) (X 31)), c, (le4 (Y 0) (Y 1) (Y 2) (Y 3)), 0, 0])) := Lib.hid (by rw [hW]; exact RX.out.set32 13 m (le4 (Y 0) (Y 1) (Y 2) (Y 3)))
 replace BW : Hid (Below gk w W10) := Lib.hid (by rw [hW]; exact below_set BW.out D3.out 13 m _)
 clear hW
 rw [rounds_succ]
 go_wp2_with fail
 refine (word_any _ gn 4 _ _ _ _ _ _ (RN.out.u8 4 (by omega)) (RN.out.u8 5 (by omega)) (RN.out.u8 6 (by omega)) (RN.out.u8 7 (by omega)) (by omega) (BY.out _) (BY.out _) (BY.out _) (BY.out _)).mono ?_
 rintro e w' ⟨rfl, m, rfl⟩
 have cx : (W10.drewN m).cell? ⟨gx, 14, none⟩ = some (.int .u32 0) := RX.out.u32 14 (by simp)
 have fx : (W10.drewN m).frozen? ⟨gx, 14, none⟩ = false := RX.out.free 14
 go_wp2_with fail
 clear cx fx
 obtain ⟨W11, hW⟩ : ∃ V, V = (W10.drewN m).setCell ⟨gx, 14, none⟩ (.int .u32 (((le4 (Y 4) (Y 5) (Y 6) (Y 7)) : Nat) : Int)) := ⟨_, rfl⟩
 rw [← hW]
 replace RK : Hid (Blk W11 gk 23 (u8s 32 X)) := Lib.hid (by rw [hW]; exact RK.out.far D0.out 14 m _)
 replace RN : Hid (Blk W11 gn 27 (u8s 12 Y)) := Lib.hid (by rw [hW]; exact RN.out.far D1.out 14 m _)
 replace RZ : Hid (Blk W11 g6 77 #[.int .u32 0, .int .u32 0, .int .u32 0, .int .u32 0, .int .u32 0, .int .u32 0, .int .u32 0, .int .u32 0, .int .u32 0, .int .u32 0, .int .u32 0, .int .u32 0, .int .u32 0, .int .u32 0, .int .u32 0, .int .u32 0]) := Lib.hid (by rw [hW]; exact RZ.out.far D2.out 14 m _)
 replace RX : Hid (Blk W11 gx 77 (u32s [1634760805, 857760878, 2036477234, 1797285236, (le4 (X 0) (X 1) (X 2) (X 3)), (le4 (X 4) (X 5) (X 6) (X 7)), (le4 (X 8) (X 9) (X 10) (X 11)), (le4 (X 12) (X 13) (X 14) (X 15)), (le4 (X 16) (X 17) (X 18) (X 19)), (le4 (X 20) (X 21) (X 22) (X 23)), (le4 (X 24) (X 25) (X 26) (X 27)), (le4 (X 28) (X 29) (X 30) (X 31)), c, (le4 (Y 0) (Y 1) (Y 2) (Y 3)), (le4 (Y 4) (Y 5) (Y 6) (Y 7)), 0])) := Lib.hid (by rw [hW]; exact RX.out.set32 14 m (le4 (Y 4) (Y 5) (Y 6) (Y 7)))
 replace BW : Hid (Below gk w W11) := Lib.hid (by rw [hW]; exact below_set BW.out D3.out 14 m _)
 clear hW
 rw [rounds_succ]
 go_wp2_with fail
 refine (word_any _ gn 8 _ _ _ _ _ _ (RN.out.u8 8 (by omega)) (RN.out.u8 9 (by omega)) (RN.out.u8 10 (by omega)) (RN.out.u8 11 (by omega)) (by omega) (BY.out _) (BY.out _) (BY.out _) (BY.out _)).mono ?_
 rintro e w' ⟨rfl, m, rfl⟩
 have cx : (W11.drewN m).cell? ⟨gx, 15, none⟩ = some (.int .u32 0) := RX.out.u32 15 (by simp)
 have fx : (W11.drewN m).frozen? ⟨gx, 15, none⟩ = false := RX.out.free 15
 go_wp2_with fail
 clear cx fx
 obtain ⟨W12, hW⟩ : ∃ V, V = (W11.drewN m).setCell ⟨gx, 15, none⟩ (.int .u32 (((le4 (Y 8) (Y 9) (Y 10) (Y 11)) : Nat) : Int)) := ⟨_, rfl⟩
 rw [← hW]
 replace RK : Hid (Blk W12 gk 23 (u8s 32 X)) := Lib.hid (by rw [hW]; exact RK.out.far D0.out 15 m _)
 replace RN : Hid (Blk W12 gn 27 (u8s 12 Y)) := Lib.hid (by rw [hW]; exact RN.out.far D1.out 15 m _)
 replace RZ : Hid (Blk W12 g6 77 #[.int .u32 0, .int .u32 0, .int .u32 0, .int .u32 0, .int .u32 0, .int .u32 0, .int .u32 0, .int .u32 0, .int .u32 0, .int .u32 0, .int .u32 0, .int .u32 0, .int .u32 0, .int .u32 0, .int .u32 0, .int .u32 0]) := Lib.hid (by rw [hW]; exact RZ.out.far D2.out 15 m _)
 replace RX : Hid (Blk W12 gx 77 (u32s [1634760805, 857760878, 2036477234, 1797285236, (le4 (X 0) (X 1) (X 2) (X 3)), (le4 (X 4) (X 5) (X 6) (X 7)), (le4 (X 8) (X 9) (X 10) (X 11)), (le4 (X 12) (X 13) (X 14) (X 15)), (le4 (X 16) (X 17) (X 18) (X 19)), (le4 (X 20) (X 21) (X 22) (X 23)), (le4 (X 24) (X 25) (X 26) (X 27)), (le4 (X 28) (X 29) (X 30) (X 31)), c, (le4 (Y 0) (Y 1) (Y 2) (Y 3)), (le4 (Y 4) (Y 5) (Y 6) (Y 7)), (le4 (Y 8) (Y 9) (Y 10) (Y 11))])) := Lib.hid (by rw [hW]; exact RX.out.set32 15 m (le4 (Y 8) (Y 9) (Y 10) (Y 11)))
 replace BW : Hid (Below gk w W12) := Lib.hid (by rw [hW]; exact below_set BW.out D3.out 15 m _)
 clear hW
 rw [rounds_succ]
 go_wp2_with (first | (refine wpList_load_row rfl 77 _ rfl gx rfl 77 _ (0, 0) _ RX.out Tryd.underlying77 rfl (by kernel_rfl) ?_) | (refine wpList_store_row rfl 77 _ _ rfl g6 _ rfl rfl 77 _ RZ.out ?_ ?_ ?_ ?_))
 ·rw [u32s_size]; kernel_rfl
 ·rw [u32s_size]; rfl
 ·exact u32s_one _
 refine bodyPost_ret (results_cell_row rfl _ _ g6 77 _ (0, 0) _ rfl (setRow_heap _ _ _ _ _ _ RZ.out) Tryd.underlying77 rfl (by rw [u32s_size]; kernel_rfl)) rfl ⟨rfl, ?_⟩
 rw [EK.out]
 exact below_setRow BW.out D4.out _
end Go.Proofs.YtlbfohpkngmaoaaDoor.Ch
