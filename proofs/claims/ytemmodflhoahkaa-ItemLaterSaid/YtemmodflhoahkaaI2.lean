import Derived.Test.YtemmodflhoahkaaI1
import Derived.Deep.DeepCutAuto
namespace Go.Proofs.Ytemmodflhoahkaa
open Go.RowKit

/-- what of a header's cells is asked: the writer, the number, the time. -/
def Hd (cs : Array Value) (wr sq tm : Int) : Prop := cs.size = 125 ∧ cs[0]? = some (.int .i64 wr) ∧ cs[1]? = some (.int .u64 sq) ∧ cs[36]? = some (.int .u64 tm)
def Blk (w : World) (g : Nat) (t : TypeId) (cs : Array Value) : Prop := w.heap[g]? = some (.cells cs t (0, 0))
theorem Blk.cell {w : World} {g t : Nat} {cs : Array Value} (h : Blk w g t cs) (j : Nat) : w.cell? ⟨g, j, none⟩ = cs[j]? := cell_of_row w _ _ _ _ _ h
theorem Blk.lt {w : World} {g t : Nat} {cs : Array Value} (h : Blk w g t cs) : g < w.heap.size := by
  rcases Nat.lt_or_ge g w.heap.size with h1 | h1
  · exact h1
  · unfold Blk at h; rw [Array.getElem?_eq_none h1] at h; cases h
theorem Blk.alloc {w : World} {g t : Nat} {cs : Array Value} (h : Blk w g t cs) (o : Obj) : Blk (w.alloc o) g t cs := (Below.heap_alloc w o g h.lt).trans h
theorem Blk.new (w : World) (t : TypeId) (cs : Array Value) : Blk (w.alloc (.cells cs t)) w.heap.size t cs := heap_alloc_new w _
theorem Blk.new' (w : World) (t : TypeId) (cs : Array Value) (n : Nat) (hn : n = w.heap.size) : Blk (w.alloc (.cells cs t)) n t cs := by rw [hn]; exact heap_alloc_new w _
theorem Blk.keep {w w1 : World} {B g t : Nat} {cs : Array Value} (h : Blk w g t cs) (hb : Below B w w1) (hg : g < B) : Blk w1 g t cs := (hb.block _ hg).trans h

/-- which is later. -/
def ord (a b c x y z : Int) : Int := or3 (cmp3 c z) (cmp3 a x) (cmp3 b y)

set_option maxHeartbeats 4000000 in
theorem compare_any (ca cb : Array Value) (a b c x y z : Int) (ha : Hd ca a b c) (hb : Hd cb x y z) (w : World) :
    Calls Try.prog 7 #[.agg ca, .agg cb] w fun e w' => e = .returned (.int .i64 (ord a b c x y z)) ∧ Below w.heap.size w w' := by
  go_enter Try.func7, Try.ntmps7
  go_wp2
  obtain ⟨W, hW⟩ : ∃ V, V = (w.alloc (.cells ca 30)).alloc (.cells cb 30) := ⟨_, rfl⟩
  rw [← hW]
  have ba : Blk W w.heap.size 30 ca := by rw [hW]; exact (Blk.new w 30 ca).alloc _
  have bb : Blk W (w.heap.size + 1) 30 cb := by rw [hW]; exact Blk.new' (w.alloc _) 30 cb _ (by simp)
  have c0 : W.cell? ⟨w.heap.size, 0, none⟩ = some (.int .i64 a) := (ba.cell 0).trans ha.2.1
  have c1 : W.cell? ⟨w.heap.size, 1, none⟩ = some (.int .u64 b) := (ba.cell 1).trans ha.2.2.1
  have c2 : W.cell? ⟨w.heap.size, 36, none⟩ = some (.int .u64 c) := (ba.cell 36).trans ha.2.2.2
  have d0 : W.cell? ⟨w.heap.size + 1, 0, none⟩ = some (.int .i64 x) := (bb.cell 0).trans hb.2.1
  have d1 : W.cell? ⟨w.heap.size + 1, 1, none⟩ = some (.int .u64 y) := (bb.cell 1).trans hb.2.2.1
  have d2 : W.cell? ⟨w.heap.size + 1, 36, none⟩ = some (.int .u64 z) := (bb.cell 36).trans hb.2.2.2
  have BW : Hid (Below w.heap.size w W) := Lib.hid (by rw [hW]; exact ((Below.refl _ _).alloc (Nat.le_refl _) _).alloc (by simp) _)
  clear ba bb hW ha hb
  generalize w.heap.size + 1 = g1 at *
  generalize hg0 : w.heap.size = g0 at *
  have G0 := Lib.hid hg0
  clear hg0
  refine wp_region_still_tail 15 (by kernel_rfl) (by kernel_rfl) ?_
  simp only [List.take_succ_cons, List.take_zero, List.drop_succ_cons, List.drop_zero]
  repeat (first | still_step | still_call ((cmp64 _ _ _).mono (fun _ _ h => ⟨h.1, h.2.symm⟩)) | still_call ((cmpI _ _ _).mono (fun _ _ h => ⟨h.1, h.2.symm⟩)))
  refine wpStill_nil ?_
  go_wp2_with fail
  refine (or_any (cmp3 c z) (cmp3 a x) (cmp3 b y) _ _ (by simp [World.cell?_alloc_new]) (by simp [World.cell?_alloc_new]) (by simp [World.cell?_alloc_new])).mono ?_
  rintro e w' ⟨rfl, rfl⟩
  go_wp2_with fail
  go_ret
  refine ⟨rfl, ?_⟩
  have hw := G0.out
  subst hw
  exact (BW.out.alloc BW.out.size _).drew
theorem size125 : (Try.prog.info? 30).map (·.size) = some 125 := by kernel_rfl

theorem gt0 (n : Int) : (decide (n > 0)) = decide (0 < n) := rfl
theorem later_any (ca cb : Array Value) (a b c x y z : Int) (ha : Hd ca a b c) (hb : Hd cb x y z) (w : World) :
    Calls Try.prog 4 #[.agg ca, .agg cb] w fun e w' => e = .returned (.bool (decide (0 < ord a b c x y z))) ∧ Below w.heap.size w w' := by
  go_enter Try.func4, Try.ntmps4
  have sa : (Try.prog.info? 30).map (·.size) = some ca.size := size125.trans (by rw [ha.1])
  have sb : (Try.prog.info? 30).map (·.size) = some cb.size := size125.trans (by rw [hb.1])
  have SA := Lib.hid sa
  have SB := Lib.hid sb
  have HA := Lib.hid ha
  have HB := Lib.hid hb
  clear sa sb ha hb
  have ba : Blk ((w.alloc (.cells ca 30)).alloc (.cells cb 30)) w.heap.size 30 ca := (Blk.new w 30 ca).alloc _
  have bb : Blk ((w.alloc (.cells ca 30)).alloc (.cells cb 30)) (w.heap.size + 1) 30 cb := Blk.new' (w.alloc _) 30 cb _ (by simp)
  have BA := Lib.hid ba
  have BB := Lib.hid bb
  clear ba bb
  go_wp2_with (first | (refine wpList_load_row rfl 30 _ rfl w.heap.size rfl 30 _ (0, 0) _ BA.out Try.underlying30 rfl SA.out ?_) | (refine wpList_load_row rfl 30 _ rfl (w.heap.size + 1) rfl 30 _ (0, 0) _ BB.out Try.underlying30 rfl SB.out ?_))
  refine (compare_any ca cb a b c x y z HA.out HB.out _).mono ?_
  rintro e w' ⟨rfl, hb⟩
  go_wp2_with fail
  go_ret
  refine ⟨rfl, ?_⟩
  exact (((Below.refl _ _).alloc (Nat.le_refl _) _).alloc (by simp) _).trans (hb.mono (by simp; omega))

/-- which is later, by the document. -/
def late (a b c x y z : Int) : Bool := if c ≠ z then decide (z < c) else if a ≠ x then decide (x < a) else decide (y < b)
theorem late_ord (a b c x y z : Int) : decide (0 < ord a b c x y z) = late a b c x y z := by
  unfold ord or3 late cmp3
  by_cases h1 : c < z
  · have : c ≠ z := by omega
    have : ¬ z < c := by omega
    simp [*]
  by_cases h2 : z < c
  · have : c ≠ z := by omega
    simp [*]
  have : c = z := by omega
  subst this
  by_cases h3 : a < x
  · have : a ≠ x := by omega
    have : ¬ x < a := by omega
    simp [*]
  by_cases h4 : x < a
  · have : a ≠ x := by omega
    simp [*]
  have : a = x := by omega
  subst this
  by_cases h5 : b < y
  · have : ¬ y < b := by omega
    simp [*]
  by_cases h6 : y < b
  · simp [*]
  simp [*]
theorem ret_bool {a b : Bool} (h : a = b) : Ending.returned (.bool a) = .returned (.bool b) := by rw [h]
theorem reflater (ca cb : Array Value) (a b c x y z : Int) (ha : Hd ca a b c) (hb : Hd cb x y z) (w : World) :
    Calls Try.prog 6 #[.agg ca, .agg cb] w fun e w' => e = .returned (.bool (late a b c x y z)) ∧ Below w.heap.size w w' := by
  go_enter Try.func6, Try.ntmps6
  go_upto_region 1 with (fail)
  obtain ⟨W, hW⟩ : ∃ V, V = (w.alloc (.cells ca 30)).alloc (.cells cb 30) := ⟨_, rfl⟩
  rw [← hW]
  have ba : Blk W w.heap.size 30 ca := by rw [hW]; exact (Blk.new w 30 ca).alloc _
  have bb : Blk W (w.heap.size + 1) 30 cb := by rw [hW]; exact Blk.new' (w.alloc _) 30 cb _ (by simp)
  have c0 : W.cell? ⟨w.heap.size, 0, none⟩ = some (.int .i64 a) := (ba.cell 0).trans ha.2.1
  have c1 : W.cell? ⟨w.heap.size, 1, none⟩ = some (.int .u64 b) := (ba.cell 1).trans ha.2.2.1
  have c2 : W.cell? ⟨w.heap.size, 36, none⟩ = some (.int .u64 c) := (ba.cell 36).trans ha.2.2.2
  have d0 : W.cell? ⟨w.heap.size + 1, 0, none⟩ = some (.int .i64 x) := (bb.cell 0).trans hb.2.1
  have d1 : W.cell? ⟨w.heap.size + 1, 1, none⟩ = some (.int .u64 y) := (bb.cell 1).trans hb.2.2.1
  have d2 : W.cell? ⟨w.heap.size + 1, 36, none⟩ = some (.int .u64 z) := (bb.cell 36).trans hb.2.2.2
  have BW : Hid (Below w.heap.size w W) := Lib.hid (by rw [hW]; exact ((Below.refl _ _).alloc (Nat.le_refl _) _).alloc (by simp) _)
  clear ba bb hW ha hb
  by_cases h1 : c = z
  · subst h1
    by_cases h2 : a = x
    · subst h2
      go_wp2
      go_ret
      exact ⟨ret_bool (by simp [late]), BW.out⟩
    · have h2' : (a != x) = true := by simpa using h2
      go_wp2
      go_ret
      exact ⟨ret_bool (by simp [late, h2]), BW.out⟩
  · have h1' : (c != z) = true := by simpa using h1
    go_wp2
    go_ret
    exact ⟨ret_bool (by simp [late, h1]), BW.out⟩
end Go.Proofs.Ytemmodflhoahkaa
