/- The reference's Formed. -/
import Derived.Test.YthkhlkiemldbaaaKZ
import Derived.Test.YthkhlkiemldbaaaKF2
namespace Go.Proofs.Ythkhlkiemldbaaa.K.Ha
open Go Go.RowKit
set_option maxRecDepth 100000
theorem bk_is {n : Nat} (h0 : 63 ≤ n) (h1 : n ≤ 2047) : bk n = n + 1 ↔ bkt ((n : Int) + 1) := by
 unfold bk bkt
 (repeat' split) <;> omega
attribute [local irreducible] wpList
set_option maxHeartbeats 40000000 in
theorem refformed_any (w : World) (hd : Hdr) (ho : HOk hd) (T : List (List Int)) (ht : Toks w hd.ta hd.tn T) :
  Calls Try.prog 23 #[.agg hd.L.toArray] w fun e w' => FmPost hd T w e w' := by
 have HO := Lib.hid ho
 have HT := Lib.hid ht
 clear ho ht
 go_enter Try.func23, Try.ntmps23
 obtain ⟨w1, hw1⟩ : ∃ V, V = w.alloc (.cells hd.L.toArray 37) := ⟨_, rfl⟩
 obtain ⟨g, hg⟩ : ∃ q, w.heap.size = q := ⟨_, rfl⟩
 have A0 : Below w.heap.size w w1 := by rw [hw1]; exact (Below.refl _ _).alloc (Nat.le_refl _) _
 have F1 : Hid (Blk w1 g 37 hd.L.toArray ∧ Below w.heap.size w w1 ∧ Toks w1 hd.ta hd.tn T) := Lib.hid ⟨by rw [hw1, ← hg]; exact Blk.new _ _ _, A0, HT.out.keep A0⟩
 clear A0
 go_upto_region 0 with (fail)
 refine wp_region_lit ?_
 refine zV (.pointer (some ⟨g, 0, none⟩)) (w1) (by rw [← hg]; exact run_boxh _ _ _ _ _ hd HO.out rfl rfl hw1) ?_
 refine zP (.bool false) ?_
 clear hw1 hg
 by_cases c0 : hd.wr < 1
 ·have W1 := Lib.hid c0
  clear c0
  go_upto_region 1 with (fail)
  refine wp_region_lit ?_
  refine zP (.pointer (some ⟨g, 0, none⟩)) ?_
  refine zQ (.int .i64 hd.wr) (run_load_one _ _ _ 3 _ _ rfl (g) (0) rfl (hcell F1.out.1 (Hdr.c0)) (by kernel_rfl)) ?_
  refine zQ (.bool true) (run_lti Try.underlying3 rfl rfl rfl (by have := W1.out; rw [decide_eq_true_eq]; omega)) ?_
  refine zP (.bool true) ?_
  refine zG ?_
  refine zG ?_
  refine zG ?_
  refine zP (.bool true) ?_
  refine zP (.bool true) ?_
  refine zG ?_
  refine zG ?_
  refine zG ?_
  refine zP (.bool true) ?_
  refine zP (.bool true) ?_
  refine zG ?_
  refine zG ?_
  refine zG ?_
  refine zP (.bool true) ?_
  refine zP (.bool true) ?_
  refine zG ?_
  refine zG ?_
  refine zG ?_
  refine zP (.bool true) ?_
  refine zP (.bool true) ?_
  refine zG ?_
  refine zG ?_
  refine zG ?_
  refine zP (.bool true) ?_
  refine zP (.bool true) ?_
  refine zG ?_
  refine zG ?_
  refine zG ?_
  refine zP (.bool true) ?_
  refine zP (.bool true) ?_
  refine zG ?_
  refine zG ?_
  refine zG ?_
  refine zG ?_
  refine zP (.bool true) ?_
  refine zP (.bool true) ?_
  refine zG ?_
  refine zG ?_
  refine zG ?_
  refine zG ?_
  refine zP (.bool true) ?_
  go_upto_region 2 with (fail)
  refine wp_region_lit ?_
  refine zP (.bool false) ?_
  go_wp2_with fail
  go_ret
  exact ⟨false, rfl, ⟨fun q => (by cases q), fun q => absurd q (fun q => by have := W1.out; have := q.wr; omega)⟩, F1.out.2.1⟩
 ·have W1 := Lib.hid c0
  clear c0
  by_cases c0 : 6 < hd.wr
  ·have W2 := Lib.hid c0
   clear c0
   go_upto_region 1 with (fail)
   refine wp_region_lit ?_
   refine zP (.pointer (some ⟨g, 0, none⟩)) ?_
   refine zQ (.int .i64 hd.wr) (run_load_one _ _ _ 3 _ _ rfl (g) (0) rfl (hcell F1.out.1 (Hdr.c0)) (by kernel_rfl)) ?_
   refine zQ (.bool false) (run_lti Try.underlying3 rfl rfl rfl (by have := W1.out; rw [decide_eq_false_iff_not]; omega)) ?_
   refine zP (.bool false) ?_
   refine zP (.pointer (some ⟨g, 0, none⟩)) ?_
   refine zQ (.int .i64 hd.wr) (run_load_one _ _ _ 3 _ _ rfl (g) (0) rfl (hcell F1.out.1 (Hdr.c0)) (by kernel_rfl)) ?_
   refine zQ (.bool true) (run_gti Try.underlying3 rfl rfl rfl (by have := W2.out; rw [decide_eq_true_eq]; omega)) ?_
   refine zP (.bool true) ?_
   refine zP (.bool true) ?_
   refine zG ?_
   refine zG ?_
   refine zG ?_
   refine zP (.bool true) ?_
   refine zP (.bool true) ?_
   refine zG ?_
   refine zG ?_
   refine zG ?_
   refine zP (.bool true) ?_
   refine zP (.bool true) ?_
   refine zG ?_
   refine zG ?_
   refine zG ?_
   refine zP (.bool true) ?_
   refine zP (.bool true) ?_
   refine zG ?_
   refine zG ?_
   refine zG ?_
   refine zP (.bool true) ?_
   refine zP (.bool true) ?_
   refine zG ?_
   refine zG ?_
   refine zG ?_
   refine zP (.bool true) ?_
   refine zP (.bool true) ?_
   refine zG ?_
   refine zG ?_
   refine zG ?_
   refine zG ?_
   refine zP (.bool true) ?_
   refine zP (.bool true) ?_
   refine zG ?_
   refine zG ?_
   refine zG ?_
   refine zG ?_
   refine zP (.bool true) ?_
   go_upto_region 2 with (fail)
   refine wp_region_lit ?_
   refine zP (.bool false) ?_
   go_wp2_with fail
   go_ret
   exact ⟨false, rfl, ⟨fun q => (by cases q), fun q => absurd q (fun q => by have := W2.out; have := q.wr; omega)⟩, F1.out.2.1⟩
  ·have W2 := Lib.hid c0
   clear c0
   by_cases c0 : hd.sq < 1
   ·have S1 := Lib.hid c0
    clear c0
    go_upto_region 1 with (fail)
    refine wp_region_lit ?_
    refine zP (.pointer (some ⟨g, 0, none⟩)) ?_
    refine zQ (.int .i64 hd.wr) (run_load_one _ _ _ 3 _ _ rfl (g) (0) rfl (hcell F1.out.1 (Hdr.c0)) (by kernel_rfl)) ?_
    refine zQ (.bool false) (run_lti Try.underlying3 rfl rfl rfl (by have := W1.out; rw [decide_eq_false_iff_not]; omega)) ?_
    refine zP (.bool false) ?_
    refine zP (.pointer (some ⟨g, 0, none⟩)) ?_
    refine zQ (.int .i64 hd.wr) (run_load_one _ _ _ 3 _ _ rfl (g) (0) rfl (hcell F1.out.1 (Hdr.c0)) (by kernel_rfl)) ?_
    refine zQ (.bool false) (run_gti Try.underlying3 rfl rfl rfl (by have := W2.out; rw [decide_eq_false_iff_not]; omega)) ?_
    refine zP (.bool false) ?_
    refine zP (.bool false) ?_
    refine zP (.pointer (some ⟨g, 1, none⟩)) ?_
    refine zQ (.int .u64 hd.sq) (run_load_one _ _ _ 22 _ _ rfl (g) (1) rfl (hcell F1.out.1 (Hdr.c1)) (by kernel_rfl)) ?_
    refine zQ (.bool true) (run_lti Try.underlying22 rfl rfl rfl (by have := S1.out; rw [decide_eq_true_eq]; omega)) ?_
    refine zP (.bool true) ?_
    refine zP (.bool true) ?_
    refine zG ?_
    refine zG ?_
    refine zG ?_
    refine zP (.bool true) ?_
    refine zP (.bool true) ?_
    refine zG ?_
    refine zG ?_
    refine zG ?_
    refine zP (.bool true) ?_
    refine zP (.bool true) ?_
    refine zG ?_
    refine zG ?_
    refine zG ?_
    refine zP (.bool true) ?_
    refine zP (.bool true) ?_
    refine zG ?_
    refine zG ?_
    refine zG ?_
    refine zP (.bool true) ?_
    refine zP (.bool true) ?_
    refine zG ?_
    refine zG ?_
    refine zG ?_
    refine zG ?_
    refine zP (.bool true) ?_
    refine zP (.bool true) ?_
    refine zG ?_
    refine zG ?_
    refine zG ?_
    refine zG ?_
    refine zP (.bool true) ?_
    go_upto_region 2 with (fail)
    refine wp_region_lit ?_
    refine zP (.bool false) ?_
    go_wp2_with fail
    go_ret
    exact ⟨false, rfl, ⟨fun q => (by cases q), fun q => absurd q (fun q => by have := S1.out; have := q.sq; omega)⟩, F1.out.2.1⟩
   ·have S1 := Lib.hid c0
    clear c0
    by_cases c0 : 1048576 < hd.sq
    ·have S2 := Lib.hid c0
     clear c0
     go_upto_region 1 with (fail)
     refine wp_region_lit ?_
     refine zP (.pointer (some ⟨g, 0, none⟩)) ?_
     refine zQ (.int .i64 hd.wr) (run_load_one _ _ _ 3 _ _ rfl (g) (0) rfl (hcell F1.out.1 (Hdr.c0)) (by kernel_rfl)) ?_
     refine zQ (.bool false) (run_lti Try.underlying3 rfl rfl rfl (by have := W1.out; rw [decide_eq_false_iff_not]; omega)) ?_
     refine zP (.bool false) ?_
     refine zP (.pointer (some ⟨g, 0, none⟩)) ?_
     refine zQ (.int .i64 hd.wr) (run_load_one _ _ _ 3 _ _ rfl (g) (0) rfl (hcell F1.out.1 (Hdr.c0)) (by kernel_rfl)) ?_
     refine zQ (.bool false) (run_gti Try.underlying3 rfl rfl rfl (by have := W2.out; rw [decide_eq_false_iff_not]; omega)) ?_
     refine zP (.bool false) ?_
     refine zP (.bool false) ?_
     refine zP (.pointer (some ⟨g, 1, none⟩)) ?_
     refine zQ (.int .u64 hd.sq) (run_load_one _ _ _ 22 _ _ rfl (g) (1) rfl (hcell F1.out.1 (Hdr.c1)) (by kernel_rfl)) ?_
     refine zQ (.bool false) (run_lti Try.underlying22 rfl rfl rfl (by have := S1.out; rw [decide_eq_false_iff_not]; omega)) ?_
     refine zP (.bool false) ?_
     refine zP (.bool false) ?_
     refine zP (.pointer (some ⟨g, 1, none⟩)) ?_
     refine zQ (.int .u64 hd.sq) (run_load_one _ _ _ 22 _ _ rfl (g) (1) rfl (hcell F1.out.1 (Hdr.c1)) (by kernel_rfl)) ?_
     refine zQ (.bool true) (run_gti Try.underlying22 rfl rfl rfl (by have := S2.out; rw [decide_eq_true_eq]; omega)) ?_
     refine zP (.bool true) ?_
     refine zP (.bool true) ?_
     refine zG ?_
     refine zG ?_
     refine zG ?_
     refine zP (.bool true) ?_
     refine zP (.bool true) ?_
     refine zG ?_
     refine zG ?_
     refine zG ?_
     refine zP (.bool true) ?_
     refine zP (.bool true) ?_
     refine zG ?_
     refine zG ?_
     refine zG ?_
     refine zP (.bool true) ?_
     refine zP (.bool true) ?_
     refine zG ?_
     refine zG ?_
     refine zG ?_
     refine zG ?_
     refine zP (.bool true) ?_
     refine zP (.bool true) ?_
     refine zG ?_
     refine zG ?_
     refine zG ?_
     refine zG ?_
     refine zP (.bool true) ?_
     go_upto_region 2 with (fail)
     refine wp_region_lit ?_
     refine zP (.bool false) ?_
     go_wp2_with fail
     go_ret
     exact ⟨false, rfl, ⟨fun q => (by cases q), fun q => absurd q (fun q => by have := S2.out; have := q.sq; omega)⟩, F1.out.2.1⟩
    ·have S2 := Lib.hid c0
     clear c0
     by_cases c0 : hd.ep < 0
     ·have E1 := Lib.hid c0
      clear c0
      go_upto_region 1 with (fail)
      refine wp_region_lit ?_
      refine zP (.pointer (some ⟨g, 0, none⟩)) ?_
      refine zQ (.int .i64 hd.wr) (run_load_one _ _ _ 3 _ _ rfl (g) (0) rfl (hcell F1.out.1 (Hdr.c0)) (by kernel_rfl)) ?_
      refine zQ (.bool false) (run_lti Try.underlying3 rfl rfl rfl (by have := W1.out; rw [decide_eq_false_iff_not]; omega)) ?_
      refine zP (.bool false) ?_
      refine zP (.pointer (some ⟨g, 0, none⟩)) ?_
      refine zQ (.int .i64 hd.wr) (run_load_one _ _ _ 3 _ _ rfl (g) (0) rfl (hcell F1.out.1 (Hdr.c0)) (by kernel_rfl)) ?_
      refine zQ (.bool false) (run_gti Try.underlying3 rfl rfl rfl (by have := W2.out; rw [decide_eq_false_iff_not]; omega)) ?_
      refine zP (.bool false) ?_
      refine zP (.bool false) ?_
      refine zP (.pointer (some ⟨g, 1, none⟩)) ?_
      refine zQ (.int .u64 hd.sq) (run_load_one _ _ _ 22 _ _ rfl (g) (1) rfl (hcell F1.out.1 (Hdr.c1)) (by kernel_rfl)) ?_
      refine zQ (.bool false) (run_lti Try.underlying22 rfl rfl rfl (by have := S1.out; rw [decide_eq_false_iff_not]; omega)) ?_
      refine zP (.bool false) ?_
      refine zP (.bool false) ?_
      refine zP (.pointer (some ⟨g, 1, none⟩)) ?_
      refine zQ (.int .u64 hd.sq) (run_load_one _ _ _ 22 _ _ rfl (g) (1) rfl (hcell F1.out.1 (Hdr.c1)) (by kernel_rfl)) ?_
      refine zQ (.bool false) (run_gti Try.underlying22 rfl rfl rfl (by have := S2.out; rw [decide_eq_false_iff_not]; omega)) ?_
      refine zP (.bool false) ?_
      refine zP (.bool false) ?_
      refine zP (.pointer (some ⟨g, 34, none⟩)) ?_
      refine zQ (.int .i64 hd.ep) (run_load_one _ _ _ 3 _ _ rfl (g) (34) rfl (hcell F1.out.1 (Hdr.c34 HO.out)) (by kernel_rfl)) ?_
      refine zQ (.bool true) (run_lti Try.underlying3 rfl rfl rfl (by have := E1.out; rw [decide_eq_true_eq]; omega)) ?_
      refine zP (.bool true) ?_
      refine zP (.bool true) ?_
      refine zG ?_
      refine zG ?_
      refine zG ?_
      refine zP (.bool true) ?_
      refine zP (.bool true) ?_
      refine zG ?_
      refine zG ?_
      refine zG ?_
      refine zP (.bool true) ?_
      refine zP (.bool true) ?_
      refine zG ?_
      refine zG ?_
      refine zG ?_
      refine zG ?_
      refine zP (.bool true) ?_
      refine zP (.bool true) ?_
      refine zG ?_
      refine zG ?_
      refine zG ?_
      refine zG ?_
      refine zP (.bool true) ?_
      go_upto_region 2 with (fail)
      refine wp_region_lit ?_
      refine zP (.bool false) ?_
      go_wp2_with fail
      go_ret
      exact ⟨false, rfl, ⟨fun q => (by cases q), fun q => absurd q (fun q => by have := E1.out; have := q.ep; omega)⟩, F1.out.2.1⟩
     ·have E1 := Lib.hid c0
      clear c0
      by_cases c0 : 255 < hd.ep
      ·have E2 := Lib.hid c0
       clear c0
       go_upto_region 1 with (fail)
       refine wp_region_lit ?_
       refine zP (.pointer (some ⟨g, 0, none⟩)) ?_
       refine zQ (.int .i64 hd.wr) (run_load_one _ _ _ 3 _ _ rfl (g) (0) rfl (hcell F1.out.1 (Hdr.c0)) (by kernel_rfl)) ?_
       refine zQ (.bool false) (run_lti Try.underlying3 rfl rfl rfl (by have := W1.out; rw [decide_eq_false_iff_not]; omega)) ?_
       refine zP (.bool false) ?_
       refine zP (.pointer (some ⟨g, 0, none⟩)) ?_
       refine zQ (.int .i64 hd.wr) (run_load_one _ _ _ 3 _ _ rfl (g) (0) rfl (hcell F1.out.1 (Hdr.c0)) (by kernel_rfl)) ?_
       refine zQ (.bool false) (run_gti Try.underlying3 rfl rfl rfl (by have := W2.out; rw [decide_eq_false_iff_not]; omega)) ?_
       refine zP (.bool false) ?_
       refine zP (.bool false) ?_
       refine zP (.pointer (some ⟨g, 1, none⟩)) ?_
       refine zQ (.int .u64 hd.sq) (run_load_one _ _ _ 22 _ _ rfl (g) (1) rfl (hcell F1.out.1 (Hdr.c1)) (by kernel_rfl)) ?_
       refine zQ (.bool false) (run_lti Try.underlying22 rfl rfl rfl (by have := S1.out; rw [decide_eq_false_iff_not]; omega)) ?_
       refine zP (.bool false) ?_
       refine zP (.bool false) ?_
       refine zP (.pointer (some ⟨g, 1, none⟩)) ?_
       refine zQ (.int .u64 hd.sq) (run_load_one _ _ _ 22 _ _ rfl (g) (1) rfl (hcell F1.out.1 (Hdr.c1)) (by kernel_rfl)) ?_
       refine zQ (.bool false) (run_gti Try.underlying22 rfl rfl rfl (by have := S2.out; rw [decide_eq_false_iff_not]; omega)) ?_
       refine zP (.bool false) ?_
       refine zP (.bool false) ?_
       refine zP (.pointer (some ⟨g, 34, none⟩)) ?_
       refine zQ (.int .i64 hd.ep) (run_load_one _ _ _ 3 _ _ rfl (g) (34) rfl (hcell F1.out.1 (Hdr.c34 HO.out)) (by kernel_rfl)) ?_
       refine zQ (.bool false) (run_lti Try.underlying3 rfl rfl rfl (by have := E1.out; rw [decide_eq_false_iff_not]; omega)) ?_
       refine zP (.bool false) ?_
       refine zP (.bool false) ?_
       refine zP (.pointer (some ⟨g, 34, none⟩)) ?_
       refine zQ (.int .i64 hd.ep) (run_load_one _ _ _ 3 _ _ rfl (g) (34) rfl (hcell F1.out.1 (Hdr.c34 HO.out)) (by kernel_rfl)) ?_
       refine zQ (.bool true) (run_gti Try.underlying3 rfl rfl rfl (by have := E2.out; rw [decide_eq_true_eq]; omega)) ?_
       refine zP (.bool true) ?_
       refine zP (.bool true) ?_
       refine zG ?_
       refine zG ?_
       refine zG ?_
       refine zP (.bool true) ?_
       refine zP (.bool true) ?_
       refine zG ?_
       refine zG ?_
       refine zG ?_
       refine zG ?_
       refine zP (.bool true) ?_
       refine zP (.bool true) ?_
       refine zG ?_
       refine zG ?_
       refine zG ?_
       refine zG ?_
       refine zP (.bool true) ?_
       go_upto_region 2 with (fail)
       refine wp_region_lit ?_
       refine zP (.bool false) ?_
       go_wp2_with fail
       go_ret
       exact ⟨false, rfl, ⟨fun q => (by cases q), fun q => absurd q (fun q => by have := E2.out; have := q.ep; omega)⟩, F1.out.2.1⟩
      ·have E2 := Lib.hid c0
       clear c0
       by_cases c0 : 1099511627776 < hd.tm
       ·have E3 := Lib.hid c0
        clear c0
        go_upto_region 1 with (fail)
        refine wp_region_lit ?_
        refine zP (.pointer (some ⟨g, 0, none⟩)) ?_
        refine zQ (.int .i64 hd.wr) (run_load_one _ _ _ 3 _ _ rfl (g) (0) rfl (hcell F1.out.1 (Hdr.c0)) (by kernel_rfl)) ?_
        refine zQ (.bool false) (run_lti Try.underlying3 rfl rfl rfl (by have := W1.out; rw [decide_eq_false_iff_not]; omega)) ?_
        refine zP (.bool false) ?_
        refine zP (.pointer (some ⟨g, 0, none⟩)) ?_
        refine zQ (.int .i64 hd.wr) (run_load_one _ _ _ 3 _ _ rfl (g) (0) rfl (hcell F1.out.1 (Hdr.c0)) (by kernel_rfl)) ?_
        refine zQ (.bool false) (run_gti Try.underlying3 rfl rfl rfl (by have := W2.out; rw [decide_eq_false_iff_not]; omega)) ?_
        refine zP (.bool false) ?_
        refine zP (.bool false) ?_
        refine zP (.pointer (some ⟨g, 1, none⟩)) ?_
        refine zQ (.int .u64 hd.sq) (run_load_one _ _ _ 22 _ _ rfl (g) (1) rfl (hcell F1.out.1 (Hdr.c1)) (by kernel_rfl)) ?_
        refine zQ (.bool false) (run_lti Try.underlying22 rfl rfl rfl (by have := S1.out; rw [decide_eq_false_iff_not]; omega)) ?_
        refine zP (.bool false) ?_
        refine zP (.bool false) ?_
        refine zP (.pointer (some ⟨g, 1, none⟩)) ?_
        refine zQ (.int .u64 hd.sq) (run_load_one _ _ _ 22 _ _ rfl (g) (1) rfl (hcell F1.out.1 (Hdr.c1)) (by kernel_rfl)) ?_
        refine zQ (.bool false) (run_gti Try.underlying22 rfl rfl rfl (by have := S2.out; rw [decide_eq_false_iff_not]; omega)) ?_
        refine zP (.bool false) ?_
        refine zP (.bool false) ?_
        refine zP (.pointer (some ⟨g, 34, none⟩)) ?_
        refine zQ (.int .i64 hd.ep) (run_load_one _ _ _ 3 _ _ rfl (g) (34) rfl (hcell F1.out.1 (Hdr.c34 HO.out)) (by kernel_rfl)) ?_
        refine zQ (.bool false) (run_lti Try.underlying3 rfl rfl rfl (by have := E1.out; rw [decide_eq_false_iff_not]; omega)) ?_
        refine zP (.bool false) ?_
        refine zP (.bool false) ?_
        refine zP (.pointer (some ⟨g, 34, none⟩)) ?_
        refine zQ (.int .i64 hd.ep) (run_load_one _ _ _ 3 _ _ rfl (g) (34) rfl (hcell F1.out.1 (Hdr.c34 HO.out)) (by kernel_rfl)) ?_
        refine zQ (.bool false) (run_gti Try.underlying3 rfl rfl rfl (by have := E2.out; rw [decide_eq_false_iff_not]; omega)) ?_
        refine zP (.bool false) ?_
        refine zP (.bool false) ?_
        refine zP (.pointer (some ⟨g, 36, none⟩)) ?_
        refine zQ (.int .u64 hd.tm) (run_load_one _ _ _ 22 _ _ rfl (g) (36) rfl (hcell F1.out.1 (Hdr.c36 HO.out)) (by kernel_rfl)) ?_
        refine zQ (.bool true) (run_gti Try.underlying22 rfl rfl rfl (by have := E3.out; rw [decide_eq_true_eq]; omega)) ?_
        refine zP (.bool true) ?_
        refine zP (.bool true) ?_
        refine zG ?_
        refine zG ?_
        refine zG ?_
        refine zG ?_
        refine zP (.bool true) ?_
        refine zP (.bool true) ?_
        refine zG ?_
        refine zG ?_
        refine zG ?_
        refine zG ?_
        refine zP (.bool true) ?_
        go_upto_region 2 with (fail)
        refine wp_region_lit ?_
        refine zP (.bool false) ?_
        go_wp2_with fail
        go_ret
        exact ⟨false, rfl, ⟨fun q => (by cases q), fun q => absurd q (fun q => by have := E3.out; have := q.tm; omega)⟩, F1.out.2.1⟩
       ·have E3 := Lib.hid c0
        clear c0
        by_cases c0 : 8 < hd.tn
        ·have T1 := Lib.hid c0
         clear c0
         go_upto_region 1 with (fail)
         refine wp_region_lit ?_
         refine zP (.pointer (some ⟨g, 0, none⟩)) ?_
         refine zQ (.int .i64 hd.wr) (run_load_one _ _ _ 3 _ _ rfl (g) (0) rfl (hcell F1.out.1 (Hdr.c0)) (by kernel_rfl)) ?_
         refine zQ (.bool false) (run_lti Try.underlying3 rfl rfl rfl (by have := W1.out; rw [decide_eq_false_iff_not]; omega)) ?_
         refine zP (.bool false) ?_
         refine zP (.pointer (some ⟨g, 0, none⟩)) ?_
         refine zQ (.int .i64 hd.wr) (run_load_one _ _ _ 3 _ _ rfl (g) (0) rfl (hcell F1.out.1 (Hdr.c0)) (by kernel_rfl)) ?_
         refine zQ (.bool false) (run_gti Try.underlying3 rfl rfl rfl (by have := W2.out; rw [decide_eq_false_iff_not]; omega)) ?_
         refine zP (.bool false) ?_
         refine zP (.bool false) ?_
         refine zP (.pointer (some ⟨g, 1, none⟩)) ?_
         refine zQ (.int .u64 hd.sq) (run_load_one _ _ _ 22 _ _ rfl (g) (1) rfl (hcell F1.out.1 (Hdr.c1)) (by kernel_rfl)) ?_
         refine zQ (.bool false) (run_lti Try.underlying22 rfl rfl rfl (by have := S1.out; rw [decide_eq_false_iff_not]; omega)) ?_
         refine zP (.bool false) ?_
         refine zP (.bool false) ?_
         refine zP (.pointer (some ⟨g, 1, none⟩)) ?_
         refine zQ (.int .u64 hd.sq) (run_load_one _ _ _ 22 _ _ rfl (g) (1) rfl (hcell F1.out.1 (Hdr.c1)) (by kernel_rfl)) ?_
         refine zQ (.bool false) (run_gti Try.underlying22 rfl rfl rfl (by have := S2.out; rw [decide_eq_false_iff_not]; omega)) ?_
         refine zP (.bool false) ?_
         refine zP (.bool false) ?_
         refine zP (.pointer (some ⟨g, 34, none⟩)) ?_
         refine zQ (.int .i64 hd.ep) (run_load_one _ _ _ 3 _ _ rfl (g) (34) rfl (hcell F1.out.1 (Hdr.c34 HO.out)) (by kernel_rfl)) ?_
         refine zQ (.bool false) (run_lti Try.underlying3 rfl rfl rfl (by have := E1.out; rw [decide_eq_false_iff_not]; omega)) ?_
         refine zP (.bool false) ?_
         refine zP (.bool false) ?_
         refine zP (.pointer (some ⟨g, 34, none⟩)) ?_
         refine zQ (.int .i64 hd.ep) (run_load_one _ _ _ 3 _ _ rfl (g) (34) rfl (hcell F1.out.1 (Hdr.c34 HO.out)) (by kernel_rfl)) ?_
         refine zQ (.bool false) (run_gti Try.underlying3 rfl rfl rfl (by have := E2.out; rw [decide_eq_false_iff_not]; omega)) ?_
         refine zP (.bool false) ?_
         refine zP (.bool false) ?_
         refine zP (.pointer (some ⟨g, 36, none⟩)) ?_
         refine zQ (.int .u64 hd.tm) (run_load_one _ _ _ 22 _ _ rfl (g) (36) rfl (hcell F1.out.1 (Hdr.c36 HO.out)) (by kernel_rfl)) ?_
         refine zQ (.bool false) (run_gti Try.underlying22 rfl rfl rfl (by have := E3.out; rw [decide_eq_false_iff_not]; omega)) ?_
         refine zP (.bool false) ?_
         refine zP (.bool false) ?_
         refine zP (.pointer (some ⟨g, 53, none⟩)) ?_
         refine zQ (.slice hd.ta hd.tn hd.tc) (run_load_one _ _ _ 35 _ _ rfl (g) (53) rfl (hcell F1.out.1 (Hdr.c53 HO.out)) (by kernel_rfl)) ?_
         refine zP (.int .i64 (hd.tn : Int)) ?_
         refine zQ (.bool true) (run_gti Try.underlying3 rfl rfl rfl (by have := T1.out; rw [decide_eq_true_eq]; omega)) ?_
         refine zP (.bool true) ?_
         refine zP (.bool true) ?_
         refine zG ?_
         refine zG ?_
         refine zG ?_
         refine zG ?_
         refine zP (.bool true) ?_
         go_upto_region 2 with (fail)
         refine wp_region_lit ?_
         refine zP (.bool false) ?_
         go_wp2_with fail
         go_ret
         exact ⟨false, rfl, ⟨fun q => (by cases q), fun q => absurd q (fun q => by have := T1.out; have := q.tn; omega)⟩, F1.out.2.1⟩
        ·have T1 := Lib.hid c0
         clear c0
         go_upto_region 1 with (fail)
         refine wp_region_lit ?_
         refine zP (.pointer (some ⟨g, 0, none⟩)) ?_
         refine zQ (.int .i64 hd.wr) (run_load_one _ _ _ 3 _ _ rfl (g) (0) rfl (hcell F1.out.1 (Hdr.c0)) (by kernel_rfl)) ?_
         refine zQ (.bool false) (run_lti Try.underlying3 rfl rfl rfl (by have := W1.out; rw [decide_eq_false_iff_not]; omega)) ?_
         refine zP (.bool false) ?_
         refine zP (.pointer (some ⟨g, 0, none⟩)) ?_
         refine zQ (.int .i64 hd.wr) (run_load_one _ _ _ 3 _ _ rfl (g) (0) rfl (hcell F1.out.1 (Hdr.c0)) (by kernel_rfl)) ?_
         refine zQ (.bool false) (run_gti Try.underlying3 rfl rfl rfl (by have := W2.out; rw [decide_eq_false_iff_not]; omega)) ?_
         refine zP (.bool false) ?_
         refine zP (.bool false) ?_
         refine zP (.pointer (some ⟨g, 1, none⟩)) ?_
         refine zQ (.int .u64 hd.sq) (run_load_one _ _ _ 22 _ _ rfl (g) (1) rfl (hcell F1.out.1 (Hdr.c1)) (by kernel_rfl)) ?_
         refine zQ (.bool false) (run_lti Try.underlying22 rfl rfl rfl (by have := S1.out; rw [decide_eq_false_iff_not]; omega)) ?_
         refine zP (.bool false) ?_
         refine zP (.bool false) ?_
         refine zP (.pointer (some ⟨g, 1, none⟩)) ?_
         refine zQ (.int .u64 hd.sq) (run_load_one _ _ _ 22 _ _ rfl (g) (1) rfl (hcell F1.out.1 (Hdr.c1)) (by kernel_rfl)) ?_
         refine zQ (.bool false) (run_gti Try.underlying22 rfl rfl rfl (by have := S2.out; rw [decide_eq_false_iff_not]; omega)) ?_
         refine zP (.bool false) ?_
         refine zP (.bool false) ?_
         refine zP (.pointer (some ⟨g, 34, none⟩)) ?_
         refine zQ (.int .i64 hd.ep) (run_load_one _ _ _ 3 _ _ rfl (g) (34) rfl (hcell F1.out.1 (Hdr.c34 HO.out)) (by kernel_rfl)) ?_
         refine zQ (.bool false) (run_lti Try.underlying3 rfl rfl rfl (by have := E1.out; rw [decide_eq_false_iff_not]; omega)) ?_
         refine zP (.bool false) ?_
         refine zP (.bool false) ?_
         refine zP (.pointer (some ⟨g, 34, none⟩)) ?_
         refine zQ (.int .i64 hd.ep) (run_load_one _ _ _ 3 _ _ rfl (g) (34) rfl (hcell F1.out.1 (Hdr.c34 HO.out)) (by kernel_rfl)) ?_
         refine zQ (.bool false) (run_gti Try.underlying3 rfl rfl rfl (by have := E2.out; rw [decide_eq_false_iff_not]; omega)) ?_
         refine zP (.bool false) ?_
         refine zP (.bool false) ?_
         refine zP (.pointer (some ⟨g, 36, none⟩)) ?_
         refine zQ (.int .u64 hd.tm) (run_load_one _ _ _ 22 _ _ rfl (g) (36) rfl (hcell F1.out.1 (Hdr.c36 HO.out)) (by kernel_rfl)) ?_
         refine zQ (.bool false) (run_gti Try.underlying22 rfl rfl rfl (by have := E3.out; rw [decide_eq_false_iff_not]; omega)) ?_
         refine zP (.bool false) ?_
         refine zP (.bool false) ?_
         refine zP (.pointer (some ⟨g, 53, none⟩)) ?_
         refine zQ (.slice hd.ta hd.tn hd.tc) (run_load_one _ _ _ 35 _ _ rfl (g) (53) rfl (hcell F1.out.1 (Hdr.c53 HO.out)) (by kernel_rfl)) ?_
         refine zP (.int .i64 (hd.tn : Int)) ?_
         refine zQ (.bool false) (run_gti Try.underlying3 rfl rfl rfl (by have := T1.out; rw [decide_eq_false_iff_not]; omega)) ?_
         refine zP (.bool false) ?_
         refine zP (.bool false) ?_
         refine zP (.pointer (some ⟨g, 53, none⟩)) ?_
         refine zQ (.slice hd.ta hd.tn hd.tc) (run_load_one _ _ _ 35 _ _ rfl (g) (53) rfl (hcell F1.out.1 (Hdr.c53 HO.out)) (by kernel_rfl)) ?_
         refine wpL_call 32 #[.slice hd.ta hd.tn hd.tc] rfl (by kernel_rfl) ((refsorted_any w1 hd.ta hd.tn hd.tc T F1.out.2.2 (by have := T1.out; omega)).mono ?_)
         rintro e w2 ⟨z, rfl, hz, hb⟩
         have F2 : Hid (Blk w2 g 37 hd.L.toArray ∧ Below w.heap.size w w2) := Lib.hid ⟨F1.out.1.below hb, F1.out.2.1.trans (hb.mono F1.out.2.1.size)⟩
         have SZ := Lib.hid hz
         clear hz hb
         refine ⟨_, rfl, ?_⟩
         simp only [Act.put, List.setIfInBounds_toArray, List.set_cons_zero, List.set_cons_succ]
         cases z
         ·refine zP (.bool true) ?_
          refine zP (.bool true) ?_
          unfold wpList
          go_upto_region 2 with (fail)
          refine wp_region_lit ?_
          refine zP (.bool false) ?_
          go_wp2_with fail
          go_ret
          exact ⟨false, rfl, ⟨fun q => (by cases q), fun q => absurd (SZ.out.2 q.so) (by simp)⟩, F2.out.2⟩
         ·refine zP (.bool false) ?_
          refine zP (.bool false) ?_
          unfold wpList
          go_upto_region 3 with (fail)
          refine wp_region_lit ?_
          refine zP (.int .i64 0) ?_
          go_wp2_with fail
          go_loopw [3] (fun s3 wr => ∃ k : Nat, s3 = .int .i64 (k : Int) ∧ Hid (k ≤ 6 ∧ (∀ j, j < k → hd.kn.getD j 0 ≤ 1048576) ∧ Blk wr g 37 hd.L.toArray ∧ Below w.heap.size w wr)) (fun s3 _ => 6 - (intOf s3).toNat)
          case atStart => exact ⟨0, rfl, Lib.hid ⟨by omega, fun j h => by omega, F2.out.1, F2.out.2⟩⟩
          case round =>
           clear F2
           obtain ⟨k, rfl, RI⟩ := hrel
           by_cases hlt : k < 6
           ·have HK := Lib.hid hlt
            clear hlt
            obtain ⟨kv, hkv⟩ : ∃ q, hd.kn.getD k 0 = q := ⟨_, rfl⟩
            have KV := Lib.hid hkv
            clear hkv
            go_upto_region 4 with (fail)
            refine wp_region_lit ?_
            refine zP (.int .i64 (k : Int)) ?_
            refine zQ (.bool true) (run_lti Try.underlying3 rfl rfl rfl (by have := HK.out; rw [decide_eq_true_eq]; omega)) ?_
            by_cases c0 : 1048576 < kv
            ·have K0 := Lib.hid c0
             clear c0
             go_upto_region 6 with (fail)
             refine wp_region_lit ?_
             refine zP (.int .i64 (k : Int)) ?_
             refine zP (.pointer (some ⟨g, 54, none⟩)) ?_
             refine zQ (.pointer (some ⟨g, 54 + k, none⟩)) (run_idx23 _ _ _ _ _ g 54 k rfl rfl rfl HK.out) ?_
             refine zQ (.int .u64 kv) (run_load_one _ _ _ 22 _ _ rfl (g) (54 + k) rfl ((hcell RI.out.2.2.1 (Hdr.ck HO.out k HK.out)).trans (by rw [KV.out])) (by kernel_rfl)) ?_
             refine zQ (.bool true) (run_gti Try.underlying22 rfl rfl rfl (by have := K0.out; rw [decide_eq_true_eq]; omega)) ?_
             go_upto_region 7 with (fail)
             refine wp_region_lit ?_
             refine zP (.bool false) ?_
             go_wp2_with fail
             go_ret
             exact ⟨false, rfl, ⟨fun q => (by cases q), fun q => absurd (q.km k HK.out) (by rw [KV.out]; have := K0.out; omega)⟩, RI.out.2.2.2⟩
            ·have K0 := Lib.hid c0
             clear c0
             go_upto_region 6 with (fail)
             refine wp_region_lit ?_
             refine zP (.int .i64 (k : Int)) ?_
             refine zP (.pointer (some ⟨g, 54, none⟩)) ?_
             refine zQ (.pointer (some ⟨g, 54 + k, none⟩)) (run_idx23 _ _ _ _ _ g 54 k rfl rfl rfl HK.out) ?_
             refine zQ (.int .u64 kv) (run_load_one _ _ _ 22 _ _ rfl (g) (54 + k) rfl ((hcell RI.out.2.2.1 (Hdr.ck HO.out k HK.out)).trans (by rw [KV.out])) (by kernel_rfl)) ?_
             refine zQ (.bool false) (run_gti Try.underlying22 rfl rfl rfl (by have := K0.out; rw [decide_eq_false_iff_not]; omega)) ?_
             go_upto_region 5 with (fail)
             refine wp_region_lit ?_
             refine zP (.int .i64 (k : Int)) ?_
             refine zQ (.int .i64 ((k + 1 : Nat) : Int)) (run_addi Try.underlying3 rfl rfl rfl _ (by have := HK.out; rw [wrap_in _ (by omega) (by omega)]; omega)) ?_
             refine zP (.int .i64 ((k + 1 : Nat) : Int)) ?_
             have NX : Hid (k + 1 ≤ 6 ∧ (∀ j, j < k + 1 → hd.kn.getD j 0 ≤ 1048576) ∧ Blk wr g 37 hd.L.toArray ∧ Below w.heap.size w wr) := Lib.hid ⟨HK.out, fun j hj => by
              by_cases e : j = k
              ·rw [e, KV.out]; have := K0.out; omega
              ·exact RI.out.2.1 j (by omega), RI.out.2.2⟩
             unfold wpList
             go_roundw
             case rel => first | exact ⟨k + 1, rfl, NX⟩ | ((repeat apply Exists.intro); exact ⟨⟨k + 1, rfl, NX⟩, rfl⟩)
             case measure => simp [intOf]; have := HK.out; omega
           ·have HK := Lib.hid hlt
            clear hlt
            have KM : Hid (∀ j, j < 6 → hd.kn.getD j 0 ≤ 1048576) := Lib.hid (fun j hj => RI.out.2.1 j (by have := HK.out; omega))
            have F3 : Hid (Blk wr g 37 hd.L.toArray ∧ Below w.heap.size w wr) := Lib.hid RI.out.2.2
            go_upto_region 4 with (fail)
            refine wp_region_lit ?_
            refine zP (.int .i64 (k : Int)) ?_
            refine zQ (.bool false) (run_lti Try.underlying3 rfl rfl rfl (by have := HK.out; rw [decide_eq_false_iff_not]; omega)) ?_
            clear RI HK
            by_cases c0 : 80 ≤ hd.sz
            ·have Z1 := Lib.hid c0
             clear c0
             by_cases c0 : hd.sz ≤ 2064
             ·have Z2 := Lib.hid c0
              clear c0
              obtain ⟨nb, hnb⟩ : ∃ n : Nat, hd.sz = (n : Int) + 17 := ⟨(hd.sz - 17).toNat, by have := Z1.out; omega⟩
              have NB : Hid (hd.sz = (nb : Int) + 17 ∧ 63 ≤ nb ∧ nb ≤ 2047) := Lib.hid ⟨hnb, by have := Z1.out; omega, by have := Z2.out; omega⟩
              clear hnb
              obtain ⟨bb, hbb⟩ : ∃ q, bk nb = q := ⟨_, rfl⟩
              have BB := Lib.hid hbb
              clear hbb
              by_cases c0 : bb = nb + 1
              ·have Z3 := Lib.hid c0
               clear c0
               go_upto_region 8 with (fail)
               refine region_held_all (fun X => Blk X g 37 hd.L.toArray ∧ Below w.heap.size w X) (by kernel_rfl) (by kernel_rfl) (by exact ⟨F3.out.1.below (Below.drew (Below.refl _ _)), F3.out.2.trans (Below.drew (Below.refl _ _))⟩) ?_
               refine zH (.pointer (some ⟨g, 92, none⟩)) (fun w h => heldRun_value (by kernel_rfl) h) ?_
               refine zH (.int .i64 hd.sz) (fun w h => heldRun_value (run_load_one _ _ _ 3 _ _ rfl (g) (92) rfl (hcell h.1 (Hdr.c92 HO.out)) (by kernel_rfl)) h) ?_
               refine zH (.bool true) (fun w h => heldRun_value (run_gei Try.underlying3 rfl rfl rfl (by have := Z1.out; rw [decide_eq_true_eq]; omega)) h) ?_
               refine zH (.bool true) (fun w h => heldRun_value (by kernel_rfl) h) ?_
               refine zH (.pointer (some ⟨g, 92, none⟩)) (fun w h => heldRun_value (by kernel_rfl) h) ?_
               refine zH (.int .i64 hd.sz) (fun w h => heldRun_value (run_load_one _ _ _ 3 _ _ rfl (g) (92) rfl (hcell h.1 (Hdr.c92 HO.out)) (by kernel_rfl)) h) ?_
               refine zH (.bool true) (fun w h => heldRun_value (run_lei Try.underlying3 rfl rfl rfl (by have := Z2.out; rw [decide_eq_true_eq]; omega)) h) ?_
               refine zH (.bool true) (fun w h => heldRun_value (by kernel_rfl) h) ?_
               refine zH (.bool true) (fun w h => heldRun_value (by kernel_rfl) h) ?_
               refine zH (.pointer (some ⟨g, 92, none⟩)) (fun w h => heldRun_value (by kernel_rfl) h) ?_
               refine zH (.int .i64 hd.sz) (fun w h => heldRun_value (run_load_one _ _ _ 3 _ _ rfl (g) (92) rfl (hcell h.1 (Hdr.c92 HO.out)) (by kernel_rfl)) h) ?_
               refine zH (.int .i64 (nb : Int)) (fun w h => heldRun_value (run_subi Try.underlying3 rfl rfl rfl _ (by have := NB.out; rw [wrap_in _ (by omega) (by omega)]; omega)) h) ?_
               refine wpHeld_call (.int .i64 (bb : Nat)) 33 #[.int .i64 (nb : Int)] rfl (fun w => by kernel_rfl) (fun X h => (refbucket_any nb X).mono fun e V he => ⟨by rw [he.1, BB.out], h.1.below he.2, h.2.trans (he.2.mono h.2.size)⟩) ?_
               simp only [Act.put, List.setIfInBounds_toArray, List.set_cons_zero, List.set_cons_succ]
               refine zH (.pointer (some ⟨g, 92, none⟩)) (fun w h => heldRun_value (by kernel_rfl) h) ?_
               refine zH (.int .i64 hd.sz) (fun w h => heldRun_value (run_load_one _ _ _ 3 _ _ rfl (g) (92) rfl (hcell h.1 (Hdr.c92 HO.out)) (by kernel_rfl)) h) ?_
               refine zH (.int .i64 ((nb + 1 : Nat) : Int)) (fun w h => heldRun_value (run_subi Try.underlying3 rfl rfl rfl _ (by have := NB.out; rw [wrap_in _ (by omega) (by omega)]; omega)) h) ?_
               refine zH (.bool true) (fun w h => heldRun_value (run_eqi Try.underlying3 rfl rfl rfl (by have := Z3.out; rw [decide_eq_true_eq]; omega)) h) ?_
               refine zH (.bool true) (fun w h => heldRun_value (by kernel_rfl) h) ?_
               refine zH (.bool true) (fun w h => heldRun_value (by kernel_rfl) h) ?_
               refine wpHeld_nil ?_
               intro X h
               have F4 := Lib.hid h
               clear h F3
               by_cases c0 : 1 < hd.sq
               ·have Q1 := Lib.hid c0
                clear c0
                go_upto_region 9 with (fail)
                refine wp_region_lit ?_
                refine zP (.pointer (some ⟨g, 1, none⟩)) ?_
                refine zQ (.int .u64 hd.sq) (run_load_one _ _ _ 22 _ _ rfl (g) (1) rfl (hcell F4.out.1 (Hdr.c1)) (by kernel_rfl)) ?_
                refine zQ (.bool true) (run_gti Try.underlying22 rfl rfl rfl (by have := Q1.out; rw [decide_eq_true_eq]; omega)) ?_
                refine zP (.bool true) ?_
                refine zG ?_
                refine zG ?_
                refine zG ?_
                refine zG ?_
                refine zP (.bool true) ?_
                refine zP (.bool true) ?_
                obtain ⟨cz, hcz⟩ : ∃ z, hd.ct = z := ⟨_, rfl⟩
                have HC := Lib.hid hcz
                clear hcz
                cases cz
                ·go_upto_region 10 with (fail)
                 refine wp_region_lit ?_
                 refine zP (.pointer (some ⟨g, 35, none⟩)) ?_
                 refine zQ (.bool false) (run_load_one _ _ _ 4 _ _ rfl (g) (35) rfl (hcell F4.out.1 ((Hdr.c35 HO.out).trans (by rw [HC.out]))) (by kernel_rfl)) ?_
                 refine zP (.bool true) ?_
                 refine zP (.bool true) ?_
                 refine zG ?_
                 refine zG ?_
                 refine zG ?_
                 refine zG ?_
                 refine zG ?_
                 refine zG ?_
                 refine zG ?_
                 refine zG ?_
                 refine zG ?_
                 refine zG ?_
                 refine zP (.bool true) ?_
                 refine zP (.bool true) ?_
                 obtain ⟨kw, hkw⟩ : ∃ k : Nat, hd.wr - 1 = (k : Int) := ⟨(hd.wr - 1).toNat, by have := W1.out; omega⟩
                 have KW : Hid (hd.wr - 1 = (kw : Int) ∧ kw < 6 ∧ (hd.wr - 1).toNat = kw) := Lib.hid ⟨hkw, by have := W2.out; omega, by omega⟩
                 clear hkw
                 obtain ⟨kv, hkv⟩ : ∃ q, hd.kn.getD kw 0 = q := ⟨_, rfl⟩
                 have KV := Lib.hid hkv
                 clear hkv
                 by_cases c0 : kv = hd.sq - 1
                 ·have K1 := Lib.hid c0
                  clear c0
                  go_upto_region 11 with (fail)
                  refine region_held_all (fun X => Blk X g 37 hd.L.toArray ∧ Below w.heap.size w X) (by kernel_rfl) (by kernel_rfl) (by exact ⟨F4.out.1.below (Below.drew (Below.refl _ _)), F4.out.2.trans (Below.drew (Below.refl _ _))⟩) ?_
                  refine zH (.bool true) (fun w h => heldRun_value (by kernel_rfl) h) ?_
                  refine zH (.bool true) (fun w h => heldRun_value (by kernel_rfl) h) ?_
                  refine zH (.bool true) (fun w h => heldRun_value (by kernel_rfl) h) ?_
                  refine zH (.bool true) (fun w h => heldRun_value (by kernel_rfl) h) ?_
                  refine zH (.bool true) (fun w h => heldRun_value (by kernel_rfl) h) ?_
                  refine zH (.bool true) (fun w h => heldRun_value (by kernel_rfl) h) ?_
                  refine zH (.bool true) (fun w h => heldRun_value (by kernel_rfl) h) ?_
                  refine zH (.bool true) (fun w h => heldRun_value (by kernel_rfl) h) ?_
                  refine zH (.pointer (some ⟨g, 0, none⟩)) (fun w h => heldRun_value (by kernel_rfl) h) ?_
                  refine zH (.int .i64 hd.wr) (fun w h => heldRun_value (run_load_one _ _ _ 3 _ _ rfl (g) (0) rfl (hcell h.1 (Hdr.c0)) (by kernel_rfl)) h) ?_
                  refine zH (.int .i64 (kw : Int)) (fun w h => heldRun_value (run_subi Try.underlying3 rfl rfl rfl _ (by rw [KW.out.1]; have := KW.out.2.1; exact wrap_in _ (by omega) (by omega))) h) ?_
                  refine zH (.pointer (some ⟨g, 54, none⟩)) (fun w h => heldRun_value (by kernel_rfl) h) ?_
                  refine zH (.pointer (some ⟨g, 54 + kw, none⟩)) (fun w h => heldRun_value (run_idx23 _ _ _ _ _ g 54 kw rfl rfl rfl KW.out.2.1) h) ?_
                  refine zH (.int .u64 kv) (fun w h => heldRun_value (run_load_one _ _ _ 22 _ _ rfl (g) (54 + kw) rfl ((hcell h.1 (Hdr.ck HO.out kw KW.out.2.1)).trans (by rw [KV.out])) (by kernel_rfl)) h) ?_
                  refine zH (.pointer (some ⟨g, 1, none⟩)) (fun w h => heldRun_value (by kernel_rfl) h) ?_
                  refine zH (.int .u64 hd.sq) (fun w h => heldRun_value (run_load_one _ _ _ 22 _ _ rfl (g) (1) rfl (hcell h.1 (Hdr.c1)) (by kernel_rfl)) h) ?_
                  refine zH (.int .u64 (hd.sq - 1)) (fun w h => heldRun_value (run_subi Try.underlying22 rfl rfl rfl _ (wrap_u64 _ (by have := S1.out; omega) (by have := HO.out.sb; omega))) h) ?_
                  refine zH (.bool true) (fun w h => heldRun_value (run_eqi Try.underlying22 rfl rfl rfl (by have := K1.out; rw [decide_eq_true_eq]; omega)) h) ?_
                  refine zH (.bool true) (fun w h => heldRun_value (by kernel_rfl) h) ?_
                  refine zH (.bool true) (fun w h => heldRun_value (by kernel_rfl) h) ?_
                  refine wpHeld_nil ?_
                  intro Y h
                  have F5 := Lib.hid h
                  clear h F4
                  go_wp2_with fail
                  go_ret
                  exact ⟨true, rfl, ⟨fun _ => ⟨by have := W1.out; have := W2.out; omega, by have := S1.out; have := S2.out; omega, (fun q => by have := Q1.out; omega), by have := E1.out; have := E2.out; omega, by have := E3.out; omega, (fun q => by rw [HC.out] at q; cases q), by have := T1.out; omega, SZ.out.1 (by simp), by rw [KW.out.2.2, KV.out]; exact K1.out, KM.out, (by have q := (bk_is NB.out.2.1 NB.out.2.2).1 (by rw [BB.out]; exact Z3.out); rw [show hd.sz - 16 = (nb : Int) + 1 by have := NB.out; omega]; exact q)⟩, fun _ => rfl⟩, F5.out.2⟩
                 ·have K1 := Lib.hid c0
                  clear c0
                  go_upto_region 11 with (fail)
                  refine region_held_all (fun X => Blk X g 37 hd.L.toArray ∧ Below w.heap.size w X) (by kernel_rfl) (by kernel_rfl) (by exact ⟨F4.out.1.below (Below.drew (Below.refl _ _)), F4.out.2.trans (Below.drew (Below.refl _ _))⟩) ?_
                  refine zH (.bool true) (fun w h => heldRun_value (by kernel_rfl) h) ?_
                  refine zH (.bool true) (fun w h => heldRun_value (by kernel_rfl) h) ?_
                  refine zH (.bool true) (fun w h => heldRun_value (by kernel_rfl) h) ?_
                  refine zH (.bool true) (fun w h => heldRun_value (by kernel_rfl) h) ?_
                  refine zH (.bool true) (fun w h => heldRun_value (by kernel_rfl) h) ?_
                  refine zH (.bool true) (fun w h => heldRun_value (by kernel_rfl) h) ?_
                  refine zH (.bool true) (fun w h => heldRun_value (by kernel_rfl) h) ?_
                  refine zH (.bool true) (fun w h => heldRun_value (by kernel_rfl) h) ?_
                  refine zH (.pointer (some ⟨g, 0, none⟩)) (fun w h => heldRun_value (by kernel_rfl) h) ?_
                  refine zH (.int .i64 hd.wr) (fun w h => heldRun_value (run_load_one _ _ _ 3 _ _ rfl (g) (0) rfl (hcell h.1 (Hdr.c0)) (by kernel_rfl)) h) ?_
                  refine zH (.int .i64 (kw : Int)) (fun w h => heldRun_value (run_subi Try.underlying3 rfl rfl rfl _ (by rw [KW.out.1]; have := KW.out.2.1; exact wrap_in _ (by omega) (by omega))) h) ?_
                  refine zH (.pointer (some ⟨g, 54, none⟩)) (fun w h => heldRun_value (by kernel_rfl) h) ?_
                  refine zH (.pointer (some ⟨g, 54 + kw, none⟩)) (fun w h => heldRun_value (run_idx23 _ _ _ _ _ g 54 kw rfl rfl rfl KW.out.2.1) h) ?_
                  refine zH (.int .u64 kv) (fun w h => heldRun_value (run_load_one _ _ _ 22 _ _ rfl (g) (54 + kw) rfl ((hcell h.1 (Hdr.ck HO.out kw KW.out.2.1)).trans (by rw [KV.out])) (by kernel_rfl)) h) ?_
                  refine zH (.pointer (some ⟨g, 1, none⟩)) (fun w h => heldRun_value (by kernel_rfl) h) ?_
                  refine zH (.int .u64 hd.sq) (fun w h => heldRun_value (run_load_one _ _ _ 22 _ _ rfl (g) (1) rfl (hcell h.1 (Hdr.c1)) (by kernel_rfl)) h) ?_
                  refine zH (.int .u64 (hd.sq - 1)) (fun w h => heldRun_value (run_subi Try.underlying22 rfl rfl rfl _ (wrap_u64 _ (by have := S1.out; omega) (by have := HO.out.sb; omega))) h) ?_
                  refine zH (.bool false) (fun w h => heldRun_value (run_eqi Try.underlying22 rfl rfl rfl (by have := K1.out; rw [decide_eq_false_iff_not]; omega)) h) ?_
                  refine zH (.bool false) (fun w h => heldRun_value (by kernel_rfl) h) ?_
                  refine zH (.bool false) (fun w h => heldRun_value (by kernel_rfl) h) ?_
                  refine wpHeld_nil ?_
                  intro Y h
                  have F5 := Lib.hid h
                  clear h F4
                  go_wp2_with fail
                  go_ret
                  exact ⟨false, rfl, ⟨fun q => (by cases q), fun q => absurd q (fun q => by have := q.kn; rw [KW.out.2.2, KV.out] at this; exact K1.out this)⟩, F5.out.2⟩
                ·by_cases c0 : hd.tn = 0
                 ·have I2 := Lib.hid c0
                  clear c0
                  by_cases c0 : hd.it = (List.replicate 16 0)
                  ·have I1 := Lib.hid c0
                   clear c0
                   go_upto_region 10 with (fail)
                   refine wp_region_lit ?_
                   refine zP (.pointer (some ⟨g, 35, none⟩)) ?_
                   refine zQ (.bool true) (run_load_one _ _ _ 4 _ _ rfl (g) (35) rfl (hcell F4.out.1 ((Hdr.c35 HO.out).trans (by rw [HC.out]))) (by kernel_rfl)) ?_
                   refine zP (.bool false) ?_
                   refine zP (.bool false) ?_
                   refine zP (.pointer (some ⟨g, 53, none⟩)) ?_
                   refine zQ (.slice hd.ta hd.tn hd.tc) (run_load_one _ _ _ 35 _ _ rfl (g) (53) rfl (hcell F4.out.1 (Hdr.c53 HO.out)) (by kernel_rfl)) ?_
                   refine zP (.int .i64 (hd.tn : Int)) ?_
                   refine zQ (.bool true) (run_eqi Try.underlying3 rfl rfl rfl (by have := I2.out; rw [decide_eq_true_eq]; omega)) ?_
                   refine zP (.bool true) ?_
                   refine zP (.pointer (some ⟨g, 37, none⟩)) ?_
                   refine zQ (.agg (u8l hd.it).toArray) (run_load_mid _ _ _ 34 _ rfl g 37 rfl (u8l hd.it) _ (Hdr.rit HO.out F4.out.1) Try.underlying34 rfl (by rw [u8l_len, HO.out.il]; kernel_rfl)) ?_
                   refine zP (.agg (u8l (List.replicate 16 0)).toArray) ?_
                   refine zQ (.bool true) (run_eq16 _ _ _ _ _ hd.it (List.replicate 16 0) true HO.out.il List.length_replicate rfl rfl rfl (by rw [decide_eq_true I1.out])) ?_
                   refine zP (.bool true) ?_
                   refine zP (.bool true) ?_
                   refine zP (.bool true) ?_
                   obtain ⟨kw, hkw⟩ : ∃ k : Nat, hd.wr - 1 = (k : Int) := ⟨(hd.wr - 1).toNat, by have := W1.out; omega⟩
                   have KW : Hid (hd.wr - 1 = (kw : Int) ∧ kw < 6 ∧ (hd.wr - 1).toNat = kw) := Lib.hid ⟨hkw, by have := W2.out; omega, by omega⟩
                   clear hkw
                   obtain ⟨kv, hkv⟩ : ∃ q, hd.kn.getD kw 0 = q := ⟨_, rfl⟩
                   have KV := Lib.hid hkv
                   clear hkv
                   by_cases c0 : kv = hd.sq - 1
                   ·have K1 := Lib.hid c0
                    clear c0
                    go_upto_region 11 with (fail)
                    refine region_held_all (fun X => Blk X g 37 hd.L.toArray ∧ Below w.heap.size w X) (by kernel_rfl) (by kernel_rfl) (by exact ⟨F4.out.1.below (Below.drew (Below.refl _ _)), F4.out.2.trans (Below.drew (Below.refl _ _))⟩) ?_
                    refine zH (.bool true) (fun w h => heldRun_value (by kernel_rfl) h) ?_
                    refine zH (.bool true) (fun w h => heldRun_value (by kernel_rfl) h) ?_
                    refine zH (.bool true) (fun w h => heldRun_value (by kernel_rfl) h) ?_
                    refine zH (.bool true) (fun w h => heldRun_value (by kernel_rfl) h) ?_
                    refine zH (.bool true) (fun w h => heldRun_value (by kernel_rfl) h) ?_
                    refine zH (.bool true) (fun w h => heldRun_value (by kernel_rfl) h) ?_
                    refine zH (.bool true) (fun w h => heldRun_value (by kernel_rfl) h) ?_
                    refine zH (.bool true) (fun w h => heldRun_value (by kernel_rfl) h) ?_
                    refine zH (.pointer (some ⟨g, 0, none⟩)) (fun w h => heldRun_value (by kernel_rfl) h) ?_
                    refine zH (.int .i64 hd.wr) (fun w h => heldRun_value (run_load_one _ _ _ 3 _ _ rfl (g) (0) rfl (hcell h.1 (Hdr.c0)) (by kernel_rfl)) h) ?_
                    refine zH (.int .i64 (kw : Int)) (fun w h => heldRun_value (run_subi Try.underlying3 rfl rfl rfl _ (by rw [KW.out.1]; have := KW.out.2.1; exact wrap_in _ (by omega) (by omega))) h) ?_
                    refine zH (.pointer (some ⟨g, 54, none⟩)) (fun w h => heldRun_value (by kernel_rfl) h) ?_
                    refine zH (.pointer (some ⟨g, 54 + kw, none⟩)) (fun w h => heldRun_value (run_idx23 _ _ _ _ _ g 54 kw rfl rfl rfl KW.out.2.1) h) ?_
                    refine zH (.int .u64 kv) (fun w h => heldRun_value (run_load_one _ _ _ 22 _ _ rfl (g) (54 + kw) rfl ((hcell h.1 (Hdr.ck HO.out kw KW.out.2.1)).trans (by rw [KV.out])) (by kernel_rfl)) h) ?_
                    refine zH (.pointer (some ⟨g, 1, none⟩)) (fun w h => heldRun_value (by kernel_rfl) h) ?_
                    refine zH (.int .u64 hd.sq) (fun w h => heldRun_value (run_load_one _ _ _ 22 _ _ rfl (g) (1) rfl (hcell h.1 (Hdr.c1)) (by kernel_rfl)) h) ?_
                    refine zH (.int .u64 (hd.sq - 1)) (fun w h => heldRun_value (run_subi Try.underlying22 rfl rfl rfl _ (wrap_u64 _ (by have := S1.out; omega) (by have := HO.out.sb; omega))) h) ?_
                    refine zH (.bool true) (fun w h => heldRun_value (run_eqi Try.underlying22 rfl rfl rfl (by have := K1.out; rw [decide_eq_true_eq]; omega)) h) ?_
                    refine zH (.bool true) (fun w h => heldRun_value (by kernel_rfl) h) ?_
                    refine zH (.bool true) (fun w h => heldRun_value (by kernel_rfl) h) ?_
                    refine wpHeld_nil ?_
                    intro Y h
                    have F5 := Lib.hid h
                    clear h F4
                    go_wp2_with fail
                    go_ret
                    exact ⟨true, rfl, ⟨fun _ => ⟨by have := W1.out; have := W2.out; omega, by have := S1.out; have := S2.out; omega, (fun q => by have := Q1.out; omega), by have := E1.out; have := E2.out; omega, by have := E3.out; omega, (fun _ => ⟨I1.out, I2.out⟩), by have := T1.out; omega, SZ.out.1 (by simp), by rw [KW.out.2.2, KV.out]; exact K1.out, KM.out, (by have q := (bk_is NB.out.2.1 NB.out.2.2).1 (by rw [BB.out]; exact Z3.out); rw [show hd.sz - 16 = (nb : Int) + 1 by have := NB.out; omega]; exact q)⟩, fun _ => rfl⟩, F5.out.2⟩
                   ·have K1 := Lib.hid c0
                    clear c0
                    go_upto_region 11 with (fail)
                    refine region_held_all (fun X => Blk X g 37 hd.L.toArray ∧ Below w.heap.size w X) (by kernel_rfl) (by kernel_rfl) (by exact ⟨F4.out.1.below (Below.drew (Below.refl _ _)), F4.out.2.trans (Below.drew (Below.refl _ _))⟩) ?_
                    refine zH (.bool true) (fun w h => heldRun_value (by kernel_rfl) h) ?_
                    refine zH (.bool true) (fun w h => heldRun_value (by kernel_rfl) h) ?_
                    refine zH (.bool true) (fun w h => heldRun_value (by kernel_rfl) h) ?_
                    refine zH (.bool true) (fun w h => heldRun_value (by kernel_rfl) h) ?_
                    refine zH (.bool true) (fun w h => heldRun_value (by kernel_rfl) h) ?_
                    refine zH (.bool true) (fun w h => heldRun_value (by kernel_rfl) h) ?_
                    refine zH (.bool true) (fun w h => heldRun_value (by kernel_rfl) h) ?_
                    refine zH (.bool true) (fun w h => heldRun_value (by kernel_rfl) h) ?_
                    refine zH (.pointer (some ⟨g, 0, none⟩)) (fun w h => heldRun_value (by kernel_rfl) h) ?_
                    refine zH (.int .i64 hd.wr) (fun w h => heldRun_value (run_load_one _ _ _ 3 _ _ rfl (g) (0) rfl (hcell h.1 (Hdr.c0)) (by kernel_rfl)) h) ?_
                    refine zH (.int .i64 (kw : Int)) (fun w h => heldRun_value (run_subi Try.underlying3 rfl rfl rfl _ (by rw [KW.out.1]; have := KW.out.2.1; exact wrap_in _ (by omega) (by omega))) h) ?_
                    refine zH (.pointer (some ⟨g, 54, none⟩)) (fun w h => heldRun_value (by kernel_rfl) h) ?_
                    refine zH (.pointer (some ⟨g, 54 + kw, none⟩)) (fun w h => heldRun_value (run_idx23 _ _ _ _ _ g 54 kw rfl rfl rfl KW.out.2.1) h) ?_
                    refine zH (.int .u64 kv) (fun w h => heldRun_value (run_load_one _ _ _ 22 _ _ rfl (g) (54 + kw) rfl ((hcell h.1 (Hdr.ck HO.out kw KW.out.2.1)).trans (by rw [KV.out])) (by kernel_rfl)) h) ?_
                    refine zH (.pointer (some ⟨g, 1, none⟩)) (fun w h => heldRun_value (by kernel_rfl) h) ?_
                    refine zH (.int .u64 hd.sq) (fun w h => heldRun_value (run_load_one _ _ _ 22 _ _ rfl (g) (1) rfl (hcell h.1 (Hdr.c1)) (by kernel_rfl)) h) ?_
                    refine zH (.int .u64 (hd.sq - 1)) (fun w h => heldRun_value (run_subi Try.underlying22 rfl rfl rfl _ (wrap_u64 _ (by have := S1.out; omega) (by have := HO.out.sb; omega))) h) ?_
                    refine zH (.bool false) (fun w h => heldRun_value (run_eqi Try.underlying22 rfl rfl rfl (by have := K1.out; rw [decide_eq_false_iff_not]; omega)) h) ?_
                    refine zH (.bool false) (fun w h => heldRun_value (by kernel_rfl) h) ?_
                    refine zH (.bool false) (fun w h => heldRun_value (by kernel_rfl) h) ?_
                    refine wpHeld_nil ?_
                    intro Y h
                    have F5 := Lib.hid h
                    clear h F4
                    go_wp2_with fail
                    go_ret
                    exact ⟨false, rfl, ⟨fun q => (by cases q), fun q => absurd q (fun q => by have := q.kn; rw [KW.out.2.2, KV.out] at this; exact K1.out this)⟩, F5.out.2⟩
                  ·have I1 := Lib.hid c0
                   clear c0
                   go_upto_region 10 with (fail)
                   refine wp_region_lit ?_
                   refine zP (.pointer (some ⟨g, 35, none⟩)) ?_
                   refine zQ (.bool true) (run_load_one _ _ _ 4 _ _ rfl (g) (35) rfl (hcell F4.out.1 ((Hdr.c35 HO.out).trans (by rw [HC.out]))) (by kernel_rfl)) ?_
                   refine zP (.bool false) ?_
                   refine zP (.bool false) ?_
                   refine zP (.pointer (some ⟨g, 53, none⟩)) ?_
                   refine zQ (.slice hd.ta hd.tn hd.tc) (run_load_one _ _ _ 35 _ _ rfl (g) (53) rfl (hcell F4.out.1 (Hdr.c53 HO.out)) (by kernel_rfl)) ?_
                   refine zP (.int .i64 (hd.tn : Int)) ?_
                   refine zQ (.bool true) (run_eqi Try.underlying3 rfl rfl rfl (by have := I2.out; rw [decide_eq_true_eq]; omega)) ?_
                   refine zP (.bool true) ?_
                   refine zP (.pointer (some ⟨g, 37, none⟩)) ?_
                   refine zQ (.agg (u8l hd.it).toArray) (run_load_mid _ _ _ 34 _ rfl g 37 rfl (u8l hd.it) _ (Hdr.rit HO.out F4.out.1) Try.underlying34 rfl (by rw [u8l_len, HO.out.il]; kernel_rfl)) ?_
                   refine zP (.agg (u8l (List.replicate 16 0)).toArray) ?_
                   refine zQ (.bool false) (run_eq16 _ _ _ _ _ hd.it (List.replicate 16 0) false HO.out.il List.length_replicate rfl rfl rfl (by rw [decide_eq_false I1.out])) ?_
                   refine zP (.bool false) ?_
                   refine zP (.bool false) ?_
                   refine zP (.bool false) ?_
                   go_upto_region 11 with (fail)
                   refine region_held_all (fun X => Blk X g 37 hd.L.toArray ∧ Below w.heap.size w X) (by kernel_rfl) (by kernel_rfl) (by exact ⟨F4.out.1.below (Below.drew (Below.refl _ _)), F4.out.2.trans (Below.drew (Below.refl _ _))⟩) ?_
                   refine zH (.bool true) (fun w h => heldRun_value (by kernel_rfl) h) ?_
                   refine zH (.bool true) (fun w h => heldRun_value (by kernel_rfl) h) ?_
                   refine zH (.bool true) (fun w h => heldRun_value (by kernel_rfl) h) ?_
                   refine zH (.bool true) (fun w h => heldRun_value (by kernel_rfl) h) ?_
                   refine zH (.bool true) (fun w h => heldRun_value (by kernel_rfl) h) ?_
                   refine zH (.bool false) (fun w h => heldRun_value (by kernel_rfl) h) ?_
                   refine zH (.bool false) (fun w h => heldRun_value (by kernel_rfl) h) ?_
                   refine zH (.bool false) (fun w h => heldRun_value (by kernel_rfl) h) ?_
                   refine zJ ?_
                   refine zJ ?_
                   refine zJ ?_
                   refine zJ ?_
                   refine zJ ?_
                   refine zJ ?_
                   refine zJ ?_
                   refine zJ ?_
                   refine zJ ?_
                   refine zJ ?_
                   refine zH (.bool false) (fun w h => heldRun_value (by kernel_rfl) h) ?_
                   refine zH (.bool false) (fun w h => heldRun_value (by kernel_rfl) h) ?_
                   refine wpHeld_nil ?_
                   intro Y h
                   have F5 := Lib.hid h
                   clear h F4
                   go_wp2_with fail
                   go_ret
                   exact ⟨false, rfl, ⟨fun q => (by cases q), fun q => absurd q (fun q => I1.out (q.ct HC.out).1)⟩, F5.out.2⟩
                 ·have I2 := Lib.hid c0
                  clear c0
                  go_upto_region 10 with (fail)
                  refine wp_region_lit ?_
                  refine zP (.pointer (some ⟨g, 35, none⟩)) ?_
                  refine zQ (.bool true) (run_load_one _ _ _ 4 _ _ rfl (g) (35) rfl (hcell F4.out.1 ((Hdr.c35 HO.out).trans (by rw [HC.out]))) (by kernel_rfl)) ?_
                  refine zP (.bool false) ?_
                  refine zP (.bool false) ?_
                  refine zP (.pointer (some ⟨g, 53, none⟩)) ?_
                  refine zQ (.slice hd.ta hd.tn hd.tc) (run_load_one _ _ _ 35 _ _ rfl (g) (53) rfl (hcell F4.out.1 (Hdr.c53 HO.out)) (by kernel_rfl)) ?_
                  refine zP (.int .i64 (hd.tn : Int)) ?_
                  refine zQ (.bool false) (run_eqi Try.underlying3 rfl rfl rfl (by have := I2.out; rw [decide_eq_false_iff_not]; omega)) ?_
                  refine zP (.bool false) ?_
                  refine zG ?_
                  refine zG ?_
                  refine zG ?_
                  refine zG ?_
                  refine zP (.bool false) ?_
                  refine zP (.bool false) ?_
                  refine zP (.bool false) ?_
                  go_upto_region 11 with (fail)
                  refine region_held_all (fun X => Blk X g 37 hd.L.toArray ∧ Below w.heap.size w X) (by kernel_rfl) (by kernel_rfl) (by exact ⟨F4.out.1.below (Below.drew (Below.refl _ _)), F4.out.2.trans (Below.drew (Below.refl _ _))⟩) ?_
                  refine zH (.bool true) (fun w h => heldRun_value (by kernel_rfl) h) ?_
                  refine zH (.bool true) (fun w h => heldRun_value (by kernel_rfl) h) ?_
                  refine zH (.bool true) (fun w h => heldRun_value (by kernel_rfl) h) ?_
                  refine zH (.bool true) (fun w h => heldRun_value (by kernel_rfl) h) ?_
                  refine zH (.bool true) (fun w h => heldRun_value (by kernel_rfl) h) ?_
                  refine zH (.bool false) (fun w h => heldRun_value (by kernel_rfl) h) ?_
                  refine zH (.bool false) (fun w h => heldRun_value (by kernel_rfl) h) ?_
                  refine zH (.bool false) (fun w h => heldRun_value (by kernel_rfl) h) ?_
                  refine zJ ?_
                  refine zJ ?_
                  refine zJ ?_
                  refine zJ ?_
                  refine zJ ?_
                  refine zJ ?_
                  refine zJ ?_
                  refine zJ ?_
                  refine zJ ?_
                  refine zJ ?_
                  refine zH (.bool false) (fun w h => heldRun_value (by kernel_rfl) h) ?_
                  refine zH (.bool false) (fun w h => heldRun_value (by kernel_rfl) h) ?_
                  refine wpHeld_nil ?_
                  intro Y h
                  have F5 := Lib.hid h
                  clear h F4
                  go_wp2_with fail
                  go_ret
                  exact ⟨false, rfl, ⟨fun q => (by cases q), fun q => absurd q (fun q => I2.out (q.ct HC.out).2)⟩, F5.out.2⟩
               ·have Q1 := Lib.hid c0
                clear c0
                by_cases c0 : hd.pv = (List.replicate 32 0)
                ·have Q2 := Lib.hid c0
                 clear c0
                 go_upto_region 9 with (fail)
                 refine wp_region_lit ?_
                 refine zP (.pointer (some ⟨g, 1, none⟩)) ?_
                 refine zQ (.int .u64 hd.sq) (run_load_one _ _ _ 22 _ _ rfl (g) (1) rfl (hcell F4.out.1 (Hdr.c1)) (by kernel_rfl)) ?_
                 refine zQ (.bool false) (run_gti Try.underlying22 rfl rfl rfl (by have := Q1.out; rw [decide_eq_false_iff_not]; omega)) ?_
                 refine zP (.bool false) ?_
                 refine zP (.pointer (some ⟨g, 2, none⟩)) ?_
                 refine zQ (.agg (u8l hd.pv).toArray) (run_load_mid _ _ _ 32 _ rfl g 2 rfl (u8l hd.pv) _ (Hdr.rpv HO.out F4.out.1) Try.underlying32 rfl (by rw [u8l_len, HO.out.pl]; kernel_rfl)) ?_
                 refine zP (.agg (u8l (List.replicate 32 0)).toArray) ?_
                 refine zQ (.bool true) (run_eq32 _ _ _ _ _ hd.pv (List.replicate 32 0) true HO.out.pl List.length_replicate rfl rfl rfl (by rw [decide_eq_true Q2.out])) ?_
                 refine zP (.bool true) ?_
                 refine zP (.bool true) ?_
                 obtain ⟨cz, hcz⟩ : ∃ z, hd.ct = z := ⟨_, rfl⟩
                 have HC := Lib.hid hcz
                 clear hcz
                 cases cz
                 ·go_upto_region 10 with (fail)
                  refine wp_region_lit ?_
                  refine zP (.pointer (some ⟨g, 35, none⟩)) ?_
                  refine zQ (.bool false) (run_load_one _ _ _ 4 _ _ rfl (g) (35) rfl (hcell F4.out.1 ((Hdr.c35 HO.out).trans (by rw [HC.out]))) (by kernel_rfl)) ?_
                  refine zP (.bool true) ?_
                  refine zP (.bool true) ?_
                  refine zG ?_
                  refine zG ?_
                  refine zG ?_
                  refine zG ?_
                  refine zG ?_
                  refine zG ?_
                  refine zG ?_
                  refine zG ?_
                  refine zG ?_
                  refine zG ?_
                  refine zP (.bool true) ?_
                  refine zP (.bool true) ?_
                  obtain ⟨kw, hkw⟩ : ∃ k : Nat, hd.wr - 1 = (k : Int) := ⟨(hd.wr - 1).toNat, by have := W1.out; omega⟩
                  have KW : Hid (hd.wr - 1 = (kw : Int) ∧ kw < 6 ∧ (hd.wr - 1).toNat = kw) := Lib.hid ⟨hkw, by have := W2.out; omega, by omega⟩
                  clear hkw
                  obtain ⟨kv, hkv⟩ : ∃ q, hd.kn.getD kw 0 = q := ⟨_, rfl⟩
                  have KV := Lib.hid hkv
                  clear hkv
                  by_cases c0 : kv = hd.sq - 1
                  ·have K1 := Lib.hid c0
                   clear c0
                   go_upto_region 11 with (fail)
                   refine region_held_all (fun X => Blk X g 37 hd.L.toArray ∧ Below w.heap.size w X) (by kernel_rfl) (by kernel_rfl) (by exact ⟨F4.out.1.below (Below.drew (Below.refl _ _)), F4.out.2.trans (Below.drew (Below.refl _ _))⟩) ?_
                   refine zH (.bool true) (fun w h => heldRun_value (by kernel_rfl) h) ?_
                   refine zH (.bool true) (fun w h => heldRun_value (by kernel_rfl) h) ?_
                   refine zH (.bool true) (fun w h => heldRun_value (by kernel_rfl) h) ?_
                   refine zH (.bool true) (fun w h => heldRun_value (by kernel_rfl) h) ?_
                   refine zH (.bool true) (fun w h => heldRun_value (by kernel_rfl) h) ?_
                   refine zH (.bool true) (fun w h => heldRun_value (by kernel_rfl) h) ?_
                   refine zH (.bool true) (fun w h => heldRun_value (by kernel_rfl) h) ?_
                   refine zH (.bool true) (fun w h => heldRun_value (by kernel_rfl) h) ?_
                   refine zH (.pointer (some ⟨g, 0, none⟩)) (fun w h => heldRun_value (by kernel_rfl) h) ?_
                   refine zH (.int .i64 hd.wr) (fun w h => heldRun_value (run_load_one _ _ _ 3 _ _ rfl (g) (0) rfl (hcell h.1 (Hdr.c0)) (by kernel_rfl)) h) ?_
                   refine zH (.int .i64 (kw : Int)) (fun w h => heldRun_value (run_subi Try.underlying3 rfl rfl rfl _ (by rw [KW.out.1]; have := KW.out.2.1; exact wrap_in _ (by omega) (by omega))) h) ?_
                   refine zH (.pointer (some ⟨g, 54, none⟩)) (fun w h => heldRun_value (by kernel_rfl) h) ?_
                   refine zH (.pointer (some ⟨g, 54 + kw, none⟩)) (fun w h => heldRun_value (run_idx23 _ _ _ _ _ g 54 kw rfl rfl rfl KW.out.2.1) h) ?_
                   refine zH (.int .u64 kv) (fun w h => heldRun_value (run_load_one _ _ _ 22 _ _ rfl (g) (54 + kw) rfl ((hcell h.1 (Hdr.ck HO.out kw KW.out.2.1)).trans (by rw [KV.out])) (by kernel_rfl)) h) ?_
                   refine zH (.pointer (some ⟨g, 1, none⟩)) (fun w h => heldRun_value (by kernel_rfl) h) ?_
                   refine zH (.int .u64 hd.sq) (fun w h => heldRun_value (run_load_one _ _ _ 22 _ _ rfl (g) (1) rfl (hcell h.1 (Hdr.c1)) (by kernel_rfl)) h) ?_
                   refine zH (.int .u64 (hd.sq - 1)) (fun w h => heldRun_value (run_subi Try.underlying22 rfl rfl rfl _ (wrap_u64 _ (by have := S1.out; omega) (by have := HO.out.sb; omega))) h) ?_
                   refine zH (.bool true) (fun w h => heldRun_value (run_eqi Try.underlying22 rfl rfl rfl (by have := K1.out; rw [decide_eq_true_eq]; omega)) h) ?_
                   refine zH (.bool true) (fun w h => heldRun_value (by kernel_rfl) h) ?_
                   refine zH (.bool true) (fun w h => heldRun_value (by kernel_rfl) h) ?_
                   refine wpHeld_nil ?_
                   intro Y h
                   have F5 := Lib.hid h
                   clear h F4
                   go_wp2_with fail
                   go_ret
                   exact ⟨true, rfl, ⟨fun _ => ⟨by have := W1.out; have := W2.out; omega, by have := S1.out; have := S2.out; omega, (fun _ => Q2.out), by have := E1.out; have := E2.out; omega, by have := E3.out; omega, (fun q => by rw [HC.out] at q; cases q), by have := T1.out; omega, SZ.out.1 (by simp), by rw [KW.out.2.2, KV.out]; exact K1.out, KM.out, (by have q := (bk_is NB.out.2.1 NB.out.2.2).1 (by rw [BB.out]; exact Z3.out); rw [show hd.sz - 16 = (nb : Int) + 1 by have := NB.out; omega]; exact q)⟩, fun _ => rfl⟩, F5.out.2⟩
                  ·have K1 := Lib.hid c0
                   clear c0
                   go_upto_region 11 with (fail)
                   refine region_held_all (fun X => Blk X g 37 hd.L.toArray ∧ Below w.heap.size w X) (by kernel_rfl) (by kernel_rfl) (by exact ⟨F4.out.1.below (Below.drew (Below.refl _ _)), F4.out.2.trans (Below.drew (Below.refl _ _))⟩) ?_
                   refine zH (.bool true) (fun w h => heldRun_value (by kernel_rfl) h) ?_
                   refine zH (.bool true) (fun w h => heldRun_value (by kernel_rfl) h) ?_
                   refine zH (.bool true) (fun w h => heldRun_value (by kernel_rfl) h) ?_
                   refine zH (.bool true) (fun w h => heldRun_value (by kernel_rfl) h) ?_
                   refine zH (.bool true) (fun w h => heldRun_value (by kernel_rfl) h) ?_
                   refine zH (.bool true) (fun w h => heldRun_value (by kernel_rfl) h) ?_
                   refine zH (.bool true) (fun w h => heldRun_value (by kernel_rfl) h) ?_
                   refine zH (.bool true) (fun w h => heldRun_value (by kernel_rfl) h) ?_
                   refine zH (.pointer (some ⟨g, 0, none⟩)) (fun w h => heldRun_value (by kernel_rfl) h) ?_
                   refine zH (.int .i64 hd.wr) (fun w h => heldRun_value (run_load_one _ _ _ 3 _ _ rfl (g) (0) rfl (hcell h.1 (Hdr.c0)) (by kernel_rfl)) h) ?_
                   refine zH (.int .i64 (kw : Int)) (fun w h => heldRun_value (run_subi Try.underlying3 rfl rfl rfl _ (by rw [KW.out.1]; have := KW.out.2.1; exact wrap_in _ (by omega) (by omega))) h) ?_
                   refine zH (.pointer (some ⟨g, 54, none⟩)) (fun w h => heldRun_value (by kernel_rfl) h) ?_
                   refine zH (.pointer (some ⟨g, 54 + kw, none⟩)) (fun w h => heldRun_value (run_idx23 _ _ _ _ _ g 54 kw rfl rfl rfl KW.out.2.1) h) ?_
                   refine zH (.int .u64 kv) (fun w h => heldRun_value (run_load_one _ _ _ 22 _ _ rfl (g) (54 + kw) rfl ((hcell h.1 (Hdr.ck HO.out kw KW.out.2.1)).trans (by rw [KV.out])) (by kernel_rfl)) h) ?_
                   refine zH (.pointer (some ⟨g, 1, none⟩)) (fun w h => heldRun_value (by kernel_rfl) h) ?_
                   refine zH (.int .u64 hd.sq) (fun w h => heldRun_value (run_load_one _ _ _ 22 _ _ rfl (g) (1) rfl (hcell h.1 (Hdr.c1)) (by kernel_rfl)) h) ?_
                   refine zH (.int .u64 (hd.sq - 1)) (fun w h => heldRun_value (run_subi Try.underlying22 rfl rfl rfl _ (wrap_u64 _ (by have := S1.out; omega) (by have := HO.out.sb; omega))) h) ?_
                   refine zH (.bool false) (fun w h => heldRun_value (run_eqi Try.underlying22 rfl rfl rfl (by have := K1.out; rw [decide_eq_false_iff_not]; omega)) h) ?_
                   refine zH (.bool false) (fun w h => heldRun_value (by kernel_rfl) h) ?_
                   refine zH (.bool false) (fun w h => heldRun_value (by kernel_rfl) h) ?_
                   refine wpHeld_nil ?_
                   intro Y h
                   have F5 := Lib.hid h
                   clear h F4
                   go_wp2_with fail
                   go_ret
                   exact ⟨false, rfl, ⟨fun q => (by cases q), fun q => absurd q (fun q => by have := q.kn; rw [KW.out.2.2, KV.out] at this; exact K1.out this)⟩, F5.out.2⟩
                 ·by_cases c0 : hd.tn = 0
                  ·have I2 := Lib.hid c0
                   clear c0
                   by_cases c0 : hd.it = (List.replicate 16 0)
                   ·have I1 := Lib.hid c0
                    clear c0
                    go_upto_region 10 with (fail)
                    refine wp_region_lit ?_
                    refine zP (.pointer (some ⟨g, 35, none⟩)) ?_
                    refine zQ (.bool true) (run_load_one _ _ _ 4 _ _ rfl (g) (35) rfl (hcell F4.out.1 ((Hdr.c35 HO.out).trans (by rw [HC.out]))) (by kernel_rfl)) ?_
                    refine zP (.bool false) ?_
                    refine zP (.bool false) ?_
                    refine zP (.pointer (some ⟨g, 53, none⟩)) ?_
                    refine zQ (.slice hd.ta hd.tn hd.tc) (run_load_one _ _ _ 35 _ _ rfl (g) (53) rfl (hcell F4.out.1 (Hdr.c53 HO.out)) (by kernel_rfl)) ?_
                    refine zP (.int .i64 (hd.tn : Int)) ?_
                    refine zQ (.bool true) (run_eqi Try.underlying3 rfl rfl rfl (by have := I2.out; rw [decide_eq_true_eq]; omega)) ?_
                    refine zP (.bool true) ?_
                    refine zP (.pointer (some ⟨g, 37, none⟩)) ?_
                    refine zQ (.agg (u8l hd.it).toArray) (run_load_mid _ _ _ 34 _ rfl g 37 rfl (u8l hd.it) _ (Hdr.rit HO.out F4.out.1) Try.underlying34 rfl (by rw [u8l_len, HO.out.il]; kernel_rfl)) ?_
                    refine zP (.agg (u8l (List.replicate 16 0)).toArray) ?_
                    refine zQ (.bool true) (run_eq16 _ _ _ _ _ hd.it (List.replicate 16 0) true HO.out.il List.length_replicate rfl rfl rfl (by rw [decide_eq_true I1.out])) ?_
                    refine zP (.bool true) ?_
                    refine zP (.bool true) ?_
                    refine zP (.bool true) ?_
                    obtain ⟨kw, hkw⟩ : ∃ k : Nat, hd.wr - 1 = (k : Int) := ⟨(hd.wr - 1).toNat, by have := W1.out; omega⟩
                    have KW : Hid (hd.wr - 1 = (kw : Int) ∧ kw < 6 ∧ (hd.wr - 1).toNat = kw) := Lib.hid ⟨hkw, by have := W2.out; omega, by omega⟩
                    clear hkw
                    obtain ⟨kv, hkv⟩ : ∃ q, hd.kn.getD kw 0 = q := ⟨_, rfl⟩
                    have KV := Lib.hid hkv
                    clear hkv
                    by_cases c0 : kv = hd.sq - 1
                    ·have K1 := Lib.hid c0
                     clear c0
                     go_upto_region 11 with (fail)
                     refine region_held_all (fun X => Blk X g 37 hd.L.toArray ∧ Below w.heap.size w X) (by kernel_rfl) (by kernel_rfl) (by exact ⟨F4.out.1.below (Below.drew (Below.refl _ _)), F4.out.2.trans (Below.drew (Below.refl _ _))⟩) ?_
                     refine zH (.bool true) (fun w h => heldRun_value (by kernel_rfl) h) ?_
                     refine zH (.bool true) (fun w h => heldRun_value (by kernel_rfl) h) ?_
                     refine zH (.bool true) (fun w h => heldRun_value (by kernel_rfl) h) ?_
                     refine zH (.bool true) (fun w h => heldRun_value (by kernel_rfl) h) ?_
                     refine zH (.bool true) (fun w h => heldRun_value (by kernel_rfl) h) ?_
                     refine zH (.bool true) (fun w h => heldRun_value (by kernel_rfl) h) ?_
                     refine zH (.bool true) (fun w h => heldRun_value (by kernel_rfl) h) ?_
                     refine zH (.bool true) (fun w h => heldRun_value (by kernel_rfl) h) ?_
                     refine zH (.pointer (some ⟨g, 0, none⟩)) (fun w h => heldRun_value (by kernel_rfl) h) ?_
                     refine zH (.int .i64 hd.wr) (fun w h => heldRun_value (run_load_one _ _ _ 3 _ _ rfl (g) (0) rfl (hcell h.1 (Hdr.c0)) (by kernel_rfl)) h) ?_
                     refine zH (.int .i64 (kw : Int)) (fun w h => heldRun_value (run_subi Try.underlying3 rfl rfl rfl _ (by rw [KW.out.1]; have := KW.out.2.1; exact wrap_in _ (by omega) (by omega))) h) ?_
                     refine zH (.pointer (some ⟨g, 54, none⟩)) (fun w h => heldRun_value (by kernel_rfl) h) ?_
                     refine zH (.pointer (some ⟨g, 54 + kw, none⟩)) (fun w h => heldRun_value (run_idx23 _ _ _ _ _ g 54 kw rfl rfl rfl KW.out.2.1) h) ?_
                     refine zH (.int .u64 kv) (fun w h => heldRun_value (run_load_one _ _ _ 22 _ _ rfl (g) (54 + kw) rfl ((hcell h.1 (Hdr.ck HO.out kw KW.out.2.1)).trans (by rw [KV.out])) (by kernel_rfl)) h) ?_
                     refine zH (.pointer (some ⟨g, 1, none⟩)) (fun w h => heldRun_value (by kernel_rfl) h) ?_
                     refine zH (.int .u64 hd.sq) (fun w h => heldRun_value (run_load_one _ _ _ 22 _ _ rfl (g) (1) rfl (hcell h.1 (Hdr.c1)) (by kernel_rfl)) h) ?_
                     refine zH (.int .u64 (hd.sq - 1)) (fun w h => heldRun_value (run_subi Try.underlying22 rfl rfl rfl _ (wrap_u64 _ (by have := S1.out; omega) (by have := HO.out.sb; omega))) h) ?_
                     refine zH (.bool true) (fun w h => heldRun_value (run_eqi Try.underlying22 rfl rfl rfl (by have := K1.out; rw [decide_eq_true_eq]; omega)) h) ?_
                     refine zH (.bool true) (fun w h => heldRun_value (by kernel_rfl) h) ?_
                     refine zH (.bool true) (fun w h => heldRun_value (by kernel_rfl) h) ?_
                     refine wpHeld_nil ?_
                     intro Y h
                     have F5 := Lib.hid h
                     clear h F4
                     go_wp2_with fail
                     go_ret
                     exact ⟨true, rfl, ⟨fun _ => ⟨by have := W1.out; have := W2.out; omega, by have := S1.out; have := S2.out; omega, (fun _ => Q2.out), by have := E1.out; have := E2.out; omega, by have := E3.out; omega, (fun _ => ⟨I1.out, I2.out⟩), by have := T1.out; omega, SZ.out.1 (by simp), by rw [KW.out.2.2, KV.out]; exact K1.out, KM.out, (by have q := (bk_is NB.out.2.1 NB.out.2.2).1 (by rw [BB.out]; exact Z3.out); rw [show hd.sz - 16 = (nb : Int) + 1 by have := NB.out; omega]; exact q)⟩, fun _ => rfl⟩, F5.out.2⟩
                    ·have K1 := Lib.hid c0
                     clear c0
                     go_upto_region 11 with (fail)
                     refine region_held_all (fun X => Blk X g 37 hd.L.toArray ∧ Below w.heap.size w X) (by kernel_rfl) (by kernel_rfl) (by exact ⟨F4.out.1.below (Below.drew (Below.refl _ _)), F4.out.2.trans (Below.drew (Below.refl _ _))⟩) ?_
                     refine zH (.bool true) (fun w h => heldRun_value (by kernel_rfl) h) ?_
                     refine zH (.bool true) (fun w h => heldRun_value (by kernel_rfl) h) ?_
                     refine zH (.bool true) (fun w h => heldRun_value (by kernel_rfl) h) ?_
                     refine zH (.bool true) (fun w h => heldRun_value (by kernel_rfl) h) ?_
                     refine zH (.bool true) (fun w h => heldRun_value (by kernel_rfl) h) ?_
                     refine zH (.bool true) (fun w h => heldRun_value (by kernel_rfl) h) ?_
                     refine zH (.bool true) (fun w h => heldRun_value (by kernel_rfl) h) ?_
                     refine zH (.bool true) (fun w h => heldRun_value (by kernel_rfl) h) ?_
                     refine zH (.pointer (some ⟨g, 0, none⟩)) (fun w h => heldRun_value (by kernel_rfl) h) ?_
                     refine zH (.int .i64 hd.wr) (fun w h => heldRun_value (run_load_one _ _ _ 3 _ _ rfl (g) (0) rfl (hcell h.1 (Hdr.c0)) (by kernel_rfl)) h) ?_
                     refine zH (.int .i64 (kw : Int)) (fun w h => heldRun_value (run_subi Try.underlying3 rfl rfl rfl _ (by rw [KW.out.1]; have := KW.out.2.1; exact wrap_in _ (by omega) (by omega))) h) ?_
                     refine zH (.pointer (some ⟨g, 54, none⟩)) (fun w h => heldRun_value (by kernel_rfl) h) ?_
                     refine zH (.pointer (some ⟨g, 54 + kw, none⟩)) (fun w h => heldRun_value (run_idx23 _ _ _ _ _ g 54 kw rfl rfl rfl KW.out.2.1) h) ?_
                     refine zH (.int .u64 kv) (fun w h => heldRun_value (run_load_one _ _ _ 22 _ _ rfl (g) (54 + kw) rfl ((hcell h.1 (Hdr.ck HO.out kw KW.out.2.1)).trans (by rw [KV.out])) (by kernel_rfl)) h) ?_
                     refine zH (.pointer (some ⟨g, 1, none⟩)) (fun w h => heldRun_value (by kernel_rfl) h) ?_
                     refine zH (.int .u64 hd.sq) (fun w h => heldRun_value (run_load_one _ _ _ 22 _ _ rfl (g) (1) rfl (hcell h.1 (Hdr.c1)) (by kernel_rfl)) h) ?_
                     refine zH (.int .u64 (hd.sq - 1)) (fun w h => heldRun_value (run_subi Try.underlying22 rfl rfl rfl _ (wrap_u64 _ (by have := S1.out; omega) (by have := HO.out.sb; omega))) h) ?_
                     refine zH (.bool false) (fun w h => heldRun_value (run_eqi Try.underlying22 rfl rfl rfl (by have := K1.out; rw [decide_eq_false_iff_not]; omega)) h) ?_
                     refine zH (.bool false) (fun w h => heldRun_value (by kernel_rfl) h) ?_
                     refine zH (.bool false) (fun w h => heldRun_value (by kernel_rfl) h) ?_
                     refine wpHeld_nil ?_
                     intro Y h
                     have F5 := Lib.hid h
                     clear h F4
                     go_wp2_with fail
                     go_ret
                     exact ⟨false, rfl, ⟨fun q => (by cases q), fun q => absurd q (fun q => by have := q.kn; rw [KW.out.2.2, KV.out] at this; exact K1.out this)⟩, F5.out.2⟩
                   ·have I1 := Lib.hid c0
                    clear c0
                    go_upto_region 10 with (fail)
                    refine wp_region_lit ?_
                    refine zP (.pointer (some ⟨g, 35, none⟩)) ?_
                    refine zQ (.bool true) (run_load_one _ _ _ 4 _ _ rfl (g) (35) rfl (hcell F4.out.1 ((Hdr.c35 HO.out).trans (by rw [HC.out]))) (by kernel_rfl)) ?_
                    refine zP (.bool false) ?_
                    refine zP (.bool false) ?_
                    refine zP (.pointer (some ⟨g, 53, none⟩)) ?_
                    refine zQ (.slice hd.ta hd.tn hd.tc) (run_load_one _ _ _ 35 _ _ rfl (g) (53) rfl (hcell F4.out.1 (Hdr.c53 HO.out)) (by kernel_rfl)) ?_
                    refine zP (.int .i64 (hd.tn : Int)) ?_
                    refine zQ (.bool true) (run_eqi Try.underlying3 rfl rfl rfl (by have := I2.out; rw [decide_eq_true_eq]; omega)) ?_
                    refine zP (.bool true) ?_
                    refine zP (.pointer (some ⟨g, 37, none⟩)) ?_
                    refine zQ (.agg (u8l hd.it).toArray) (run_load_mid _ _ _ 34 _ rfl g 37 rfl (u8l hd.it) _ (Hdr.rit HO.out F4.out.1) Try.underlying34 rfl (by rw [u8l_len, HO.out.il]; kernel_rfl)) ?_
                    refine zP (.agg (u8l (List.replicate 16 0)).toArray) ?_
                    refine zQ (.bool false) (run_eq16 _ _ _ _ _ hd.it (List.replicate 16 0) false HO.out.il List.length_replicate rfl rfl rfl (by rw [decide_eq_false I1.out])) ?_
                    refine zP (.bool false) ?_
                    refine zP (.bool false) ?_
                    refine zP (.bool false) ?_
                    go_upto_region 11 with (fail)
                    refine region_held_all (fun X => Blk X g 37 hd.L.toArray ∧ Below w.heap.size w X) (by kernel_rfl) (by kernel_rfl) (by exact ⟨F4.out.1.below (Below.drew (Below.refl _ _)), F4.out.2.trans (Below.drew (Below.refl _ _))⟩) ?_
                    refine zH (.bool true) (fun w h => heldRun_value (by kernel_rfl) h) ?_
                    refine zH (.bool true) (fun w h => heldRun_value (by kernel_rfl) h) ?_
                    refine zH (.bool true) (fun w h => heldRun_value (by kernel_rfl) h) ?_
                    refine zH (.bool true) (fun w h => heldRun_value (by kernel_rfl) h) ?_
                    refine zH (.bool true) (fun w h => heldRun_value (by kernel_rfl) h) ?_
                    refine zH (.bool false) (fun w h => heldRun_value (by kernel_rfl) h) ?_
                    refine zH (.bool false) (fun w h => heldRun_value (by kernel_rfl) h) ?_
                    refine zH (.bool false) (fun w h => heldRun_value (by kernel_rfl) h) ?_
                    refine zJ ?_
                    refine zJ ?_
                    refine zJ ?_
                    refine zJ ?_
                    refine zJ ?_
                    refine zJ ?_
                    refine zJ ?_
                    refine zJ ?_
                    refine zJ ?_
                    refine zJ ?_
                    refine zH (.bool false) (fun w h => heldRun_value (by kernel_rfl) h) ?_
                    refine zH (.bool false) (fun w h => heldRun_value (by kernel_rfl) h) ?_
                    refine wpHeld_nil ?_
                    intro Y h
                    have F5 := Lib.hid h
                    clear h F4
                    go_wp2_with fail
                    go_ret
                    exact ⟨false, rfl, ⟨fun q => (by cases q), fun q => absurd q (fun q => I1.out (q.ct HC.out).1)⟩, F5.out.2⟩
                  ·have I2 := Lib.hid c0
                   clear c0
                   go_upto_region 10 with (fail)
                   refine wp_region_lit ?_
                   refine zP (.pointer (some ⟨g, 35, none⟩)) ?_
                   refine zQ (.bool true) (run_load_one _ _ _ 4 _ _ rfl (g) (35) rfl (hcell F4.out.1 ((Hdr.c35 HO.out).trans (by rw [HC.out]))) (by kernel_rfl)) ?_
                   refine zP (.bool false) ?_
                   refine zP (.bool false) ?_
                   refine zP (.pointer (some ⟨g, 53, none⟩)) ?_
                   refine zQ (.slice hd.ta hd.tn hd.tc) (run_load_one _ _ _ 35 _ _ rfl (g) (53) rfl (hcell F4.out.1 (Hdr.c53 HO.out)) (by kernel_rfl)) ?_
                   refine zP (.int .i64 (hd.tn : Int)) ?_
                   refine zQ (.bool false) (run_eqi Try.underlying3 rfl rfl rfl (by have := I2.out; rw [decide_eq_false_iff_not]; omega)) ?_
                   refine zP (.bool false) ?_
                   refine zG ?_
                   refine zG ?_
                   refine zG ?_
                   refine zG ?_
                   refine zP (.bool false) ?_
                   refine zP (.bool false) ?_
                   refine zP (.bool false) ?_
                   go_upto_region 11 with (fail)
                   refine region_held_all (fun X => Blk X g 37 hd.L.toArray ∧ Below w.heap.size w X) (by kernel_rfl) (by kernel_rfl) (by exact ⟨F4.out.1.below (Below.drew (Below.refl _ _)), F4.out.2.trans (Below.drew (Below.refl _ _))⟩) ?_
                   refine zH (.bool true) (fun w h => heldRun_value (by kernel_rfl) h) ?_
                   refine zH (.bool true) (fun w h => heldRun_value (by kernel_rfl) h) ?_
                   refine zH (.bool true) (fun w h => heldRun_value (by kernel_rfl) h) ?_
                   refine zH (.bool true) (fun w h => heldRun_value (by kernel_rfl) h) ?_
                   refine zH (.bool true) (fun w h => heldRun_value (by kernel_rfl) h) ?_
                   refine zH (.bool false) (fun w h => heldRun_value (by kernel_rfl) h) ?_
                   refine zH (.bool false) (fun w h => heldRun_value (by kernel_rfl) h) ?_
                   refine zH (.bool false) (fun w h => heldRun_value (by kernel_rfl) h) ?_
                   refine zJ ?_
                   refine zJ ?_
                   refine zJ ?_
                   refine zJ ?_
                   refine zJ ?_
                   refine zJ ?_
                   refine zJ ?_
                   refine zJ ?_
                   refine zJ ?_
                   refine zJ ?_
                   refine zH (.bool false) (fun w h => heldRun_value (by kernel_rfl) h) ?_
                   refine zH (.bool false) (fun w h => heldRun_value (by kernel_rfl) h) ?_
                   refine wpHeld_nil ?_
                   intro Y h
                   have F5 := Lib.hid h
                   clear h F4
                   go_wp2_with fail
                   go_ret
                   exact ⟨false, rfl, ⟨fun q => (by cases q), fun q => absurd q (fun q => I2.out (q.ct HC.out).2)⟩, F5.out.2⟩
                ·have Q2 := Lib.hid c0
                 clear c0
                 go_upto_region 9 with (fail)
                 refine wp_region_lit ?_
                 refine zP (.pointer (some ⟨g, 1, none⟩)) ?_
                 refine zQ (.int .u64 hd.sq) (run_load_one _ _ _ 22 _ _ rfl (g) (1) rfl (hcell F4.out.1 (Hdr.c1)) (by kernel_rfl)) ?_
                 refine zQ (.bool false) (run_gti Try.underlying22 rfl rfl rfl (by have := Q1.out; rw [decide_eq_false_iff_not]; omega)) ?_
                 refine zP (.bool false) ?_
                 refine zP (.pointer (some ⟨g, 2, none⟩)) ?_
                 refine zQ (.agg (u8l hd.pv).toArray) (run_load_mid _ _ _ 32 _ rfl g 2 rfl (u8l hd.pv) _ (Hdr.rpv HO.out F4.out.1) Try.underlying32 rfl (by rw [u8l_len, HO.out.pl]; kernel_rfl)) ?_
                 refine zP (.agg (u8l (List.replicate 32 0)).toArray) ?_
                 refine zQ (.bool false) (run_eq32 _ _ _ _ _ hd.pv (List.replicate 32 0) false HO.out.pl List.length_replicate rfl rfl rfl (by rw [decide_eq_false Q2.out])) ?_
                 refine zP (.bool false) ?_
                 refine zP (.bool false) ?_
                 obtain ⟨cz, hcz⟩ : ∃ z, hd.ct = z := ⟨_, rfl⟩
                 have HC := Lib.hid hcz
                 clear hcz
                 cases cz
                 ·go_upto_region 10 with (fail)
                  refine wp_region_lit ?_
                  refine zP (.pointer (some ⟨g, 35, none⟩)) ?_
                  refine zQ (.bool false) (run_load_one _ _ _ 4 _ _ rfl (g) (35) rfl (hcell F4.out.1 ((Hdr.c35 HO.out).trans (by rw [HC.out]))) (by kernel_rfl)) ?_
                  refine zP (.bool true) ?_
                  refine zP (.bool true) ?_
                  refine zG ?_
                  refine zG ?_
                  refine zG ?_
                  refine zG ?_
                  refine zG ?_
                  refine zG ?_
                  refine zG ?_
                  refine zG ?_
                  refine zG ?_
                  refine zG ?_
                  refine zP (.bool true) ?_
                  refine zP (.bool true) ?_
                  go_upto_region 11 with (fail)
                  refine region_held_all (fun X => Blk X g 37 hd.L.toArray ∧ Below w.heap.size w X) (by kernel_rfl) (by kernel_rfl) (by exact ⟨F4.out.1.below (Below.drew (Below.refl _ _)), F4.out.2.trans (Below.drew (Below.refl _ _))⟩) ?_
                  refine zH (.bool true) (fun w h => heldRun_value (by kernel_rfl) h) ?_
                  refine zH (.bool true) (fun w h => heldRun_value (by kernel_rfl) h) ?_
                  refine zH (.bool false) (fun w h => heldRun_value (by kernel_rfl) h) ?_
                  refine zH (.bool false) (fun w h => heldRun_value (by kernel_rfl) h) ?_
                  refine zH (.bool false) (fun w h => heldRun_value (by kernel_rfl) h) ?_
                  refine zJ ?_
                  refine zH (.bool false) (fun w h => heldRun_value (by kernel_rfl) h) ?_
                  refine zH (.bool false) (fun w h => heldRun_value (by kernel_rfl) h) ?_
                  refine zJ ?_
                  refine zJ ?_
                  refine zJ ?_
                  refine zJ ?_
                  refine zJ ?_
                  refine zJ ?_
                  refine zJ ?_
                  refine zJ ?_
                  refine zJ ?_
                  refine zJ ?_
                  refine zH (.bool false) (fun w h => heldRun_value (by kernel_rfl) h) ?_
                  refine zH (.bool false) (fun w h => heldRun_value (by kernel_rfl) h) ?_
                  refine wpHeld_nil ?_
                  intro Y h
                  have F5 := Lib.hid h
                  clear h F4
                  go_wp2_with fail
                  go_ret
                  exact ⟨false, rfl, ⟨fun q => (by cases q), fun q => absurd q (fun q => Q2.out (q.pv (by have := Q1.out; have := S1.out; omega)))⟩, F5.out.2⟩
                 ·by_cases c0 : hd.tn = 0
                  ·have I2 := Lib.hid c0
                   clear c0
                   by_cases c0 : hd.it = (List.replicate 16 0)
                   ·have I1 := Lib.hid c0
                    clear c0
                    go_upto_region 10 with (fail)
                    refine wp_region_lit ?_
                    refine zP (.pointer (some ⟨g, 35, none⟩)) ?_
                    refine zQ (.bool true) (run_load_one _ _ _ 4 _ _ rfl (g) (35) rfl (hcell F4.out.1 ((Hdr.c35 HO.out).trans (by rw [HC.out]))) (by kernel_rfl)) ?_
                    refine zP (.bool false) ?_
                    refine zP (.bool false) ?_
                    refine zP (.pointer (some ⟨g, 53, none⟩)) ?_
                    refine zQ (.slice hd.ta hd.tn hd.tc) (run_load_one _ _ _ 35 _ _ rfl (g) (53) rfl (hcell F4.out.1 (Hdr.c53 HO.out)) (by kernel_rfl)) ?_
                    refine zP (.int .i64 (hd.tn : Int)) ?_
                    refine zQ (.bool true) (run_eqi Try.underlying3 rfl rfl rfl (by have := I2.out; rw [decide_eq_true_eq]; omega)) ?_
                    refine zP (.bool true) ?_
                    refine zP (.pointer (some ⟨g, 37, none⟩)) ?_
                    refine zQ (.agg (u8l hd.it).toArray) (run_load_mid _ _ _ 34 _ rfl g 37 rfl (u8l hd.it) _ (Hdr.rit HO.out F4.out.1) Try.underlying34 rfl (by rw [u8l_len, HO.out.il]; kernel_rfl)) ?_
                    refine zP (.agg (u8l (List.replicate 16 0)).toArray) ?_
                    refine zQ (.bool true) (run_eq16 _ _ _ _ _ hd.it (List.replicate 16 0) true HO.out.il List.length_replicate rfl rfl rfl (by rw [decide_eq_true I1.out])) ?_
                    refine zP (.bool true) ?_
                    refine zP (.bool true) ?_
                    refine zP (.bool true) ?_
                    go_upto_region 11 with (fail)
                    refine region_held_all (fun X => Blk X g 37 hd.L.toArray ∧ Below w.heap.size w X) (by kernel_rfl) (by kernel_rfl) (by exact ⟨F4.out.1.below (Below.drew (Below.refl _ _)), F4.out.2.trans (Below.drew (Below.refl _ _))⟩) ?_
                    refine zH (.bool true) (fun w h => heldRun_value (by kernel_rfl) h) ?_
                    refine zH (.bool true) (fun w h => heldRun_value (by kernel_rfl) h) ?_
                    refine zH (.bool false) (fun w h => heldRun_value (by kernel_rfl) h) ?_
                    refine zH (.bool false) (fun w h => heldRun_value (by kernel_rfl) h) ?_
                    refine zH (.bool false) (fun w h => heldRun_value (by kernel_rfl) h) ?_
                    refine zJ ?_
                    refine zH (.bool false) (fun w h => heldRun_value (by kernel_rfl) h) ?_
                    refine zH (.bool false) (fun w h => heldRun_value (by kernel_rfl) h) ?_
                    refine zJ ?_
                    refine zJ ?_
                    refine zJ ?_
                    refine zJ ?_
                    refine zJ ?_
                    refine zJ ?_
                    refine zJ ?_
                    refine zJ ?_
                    refine zJ ?_
                    refine zJ ?_
                    refine zH (.bool false) (fun w h => heldRun_value (by kernel_rfl) h) ?_
                    refine zH (.bool false) (fun w h => heldRun_value (by kernel_rfl) h) ?_
                    refine wpHeld_nil ?_
                    intro Y h
                    have F5 := Lib.hid h
                    clear h F4
                    go_wp2_with fail
                    go_ret
                    exact ⟨false, rfl, ⟨fun q => (by cases q), fun q => absurd q (fun q => Q2.out (q.pv (by have := Q1.out; have := S1.out; omega)))⟩, F5.out.2⟩
                   ·have I1 := Lib.hid c0
                    clear c0
                    go_upto_region 10 with (fail)
                    refine wp_region_lit ?_
                    refine zP (.pointer (some ⟨g, 35, none⟩)) ?_
                    refine zQ (.bool true) (run_load_one _ _ _ 4 _ _ rfl (g) (35) rfl (hcell F4.out.1 ((Hdr.c35 HO.out).trans (by rw [HC.out]))) (by kernel_rfl)) ?_
                    refine zP (.bool false) ?_
                    refine zP (.bool false) ?_
                    refine zP (.pointer (some ⟨g, 53, none⟩)) ?_
                    refine zQ (.slice hd.ta hd.tn hd.tc) (run_load_one _ _ _ 35 _ _ rfl (g) (53) rfl (hcell F4.out.1 (Hdr.c53 HO.out)) (by kernel_rfl)) ?_
                    refine zP (.int .i64 (hd.tn : Int)) ?_
                    refine zQ (.bool true) (run_eqi Try.underlying3 rfl rfl rfl (by have := I2.out; rw [decide_eq_true_eq]; omega)) ?_
                    refine zP (.bool true) ?_
                    refine zP (.pointer (some ⟨g, 37, none⟩)) ?_
                    refine zQ (.agg (u8l hd.it).toArray) (run_load_mid _ _ _ 34 _ rfl g 37 rfl (u8l hd.it) _ (Hdr.rit HO.out F4.out.1) Try.underlying34 rfl (by rw [u8l_len, HO.out.il]; kernel_rfl)) ?_
                    refine zP (.agg (u8l (List.replicate 16 0)).toArray) ?_
                    refine zQ (.bool false) (run_eq16 _ _ _ _ _ hd.it (List.replicate 16 0) false HO.out.il List.length_replicate rfl rfl rfl (by rw [decide_eq_false I1.out])) ?_
                    refine zP (.bool false) ?_
                    refine zP (.bool false) ?_
                    refine zP (.bool false) ?_
                    go_upto_region 11 with (fail)
                    refine region_held_all (fun X => Blk X g 37 hd.L.toArray ∧ Below w.heap.size w X) (by kernel_rfl) (by kernel_rfl) (by exact ⟨F4.out.1.below (Below.drew (Below.refl _ _)), F4.out.2.trans (Below.drew (Below.refl _ _))⟩) ?_
                    refine zH (.bool true) (fun w h => heldRun_value (by kernel_rfl) h) ?_
                    refine zH (.bool true) (fun w h => heldRun_value (by kernel_rfl) h) ?_
                    refine zH (.bool false) (fun w h => heldRun_value (by kernel_rfl) h) ?_
                    refine zH (.bool false) (fun w h => heldRun_value (by kernel_rfl) h) ?_
                    refine zH (.bool false) (fun w h => heldRun_value (by kernel_rfl) h) ?_
                    refine zJ ?_
                    refine zH (.bool false) (fun w h => heldRun_value (by kernel_rfl) h) ?_
                    refine zH (.bool false) (fun w h => heldRun_value (by kernel_rfl) h) ?_
                    refine zJ ?_
                    refine zJ ?_
                    refine zJ ?_
                    refine zJ ?_
                    refine zJ ?_
                    refine zJ ?_
                    refine zJ ?_
                    refine zJ ?_
                    refine zJ ?_
                    refine zJ ?_
                    refine zH (.bool false) (fun w h => heldRun_value (by kernel_rfl) h) ?_
                    refine zH (.bool false) (fun w h => heldRun_value (by kernel_rfl) h) ?_
                    refine wpHeld_nil ?_
                    intro Y h
                    have F5 := Lib.hid h
                    clear h F4
                    go_wp2_with fail
                    go_ret
                    exact ⟨false, rfl, ⟨fun q => (by cases q), fun q => absurd q (fun q => Q2.out (q.pv (by have := Q1.out; have := S1.out; omega)))⟩, F5.out.2⟩
                  ·have I2 := Lib.hid c0
                   clear c0
                   go_upto_region 10 with (fail)
                   refine wp_region_lit ?_
                   refine zP (.pointer (some ⟨g, 35, none⟩)) ?_
                   refine zQ (.bool true) (run_load_one _ _ _ 4 _ _ rfl (g) (35) rfl (hcell F4.out.1 ((Hdr.c35 HO.out).trans (by rw [HC.out]))) (by kernel_rfl)) ?_
                   refine zP (.bool false) ?_
                   refine zP (.bool false) ?_
                   refine zP (.pointer (some ⟨g, 53, none⟩)) ?_
                   refine zQ (.slice hd.ta hd.tn hd.tc) (run_load_one _ _ _ 35 _ _ rfl (g) (53) rfl (hcell F4.out.1 (Hdr.c53 HO.out)) (by kernel_rfl)) ?_
                   refine zP (.int .i64 (hd.tn : Int)) ?_
                   refine zQ (.bool false) (run_eqi Try.underlying3 rfl rfl rfl (by have := I2.out; rw [decide_eq_false_iff_not]; omega)) ?_
                   refine zP (.bool false) ?_
                   refine zG ?_
                   refine zG ?_
                   refine zG ?_
                   refine zG ?_
                   refine zP (.bool false) ?_
                   refine zP (.bool false) ?_
                   refine zP (.bool false) ?_
                   go_upto_region 11 with (fail)
                   refine region_held_all (fun X => Blk X g 37 hd.L.toArray ∧ Below w.heap.size w X) (by kernel_rfl) (by kernel_rfl) (by exact ⟨F4.out.1.below (Below.drew (Below.refl _ _)), F4.out.2.trans (Below.drew (Below.refl _ _))⟩) ?_
                   refine zH (.bool true) (fun w h => heldRun_value (by kernel_rfl) h) ?_
                   refine zH (.bool true) (fun w h => heldRun_value (by kernel_rfl) h) ?_
                   refine zH (.bool false) (fun w h => heldRun_value (by kernel_rfl) h) ?_
                   refine zH (.bool false) (fun w h => heldRun_value (by kernel_rfl) h) ?_
                   refine zH (.bool false) (fun w h => heldRun_value (by kernel_rfl) h) ?_
                   refine zJ ?_
                   refine zH (.bool false) (fun w h => heldRun_value (by kernel_rfl) h) ?_
                   refine zH (.bool false) (fun w h => heldRun_value (by kernel_rfl) h) ?_
                   refine zJ ?_
                   refine zJ ?_
                   refine zJ ?_
                   refine zJ ?_
                   refine zJ ?_
                   refine zJ ?_
                   refine zJ ?_
                   refine zJ ?_
                   refine zJ ?_
                   refine zJ ?_
                   refine zH (.bool false) (fun w h => heldRun_value (by kernel_rfl) h) ?_
                   refine zH (.bool false) (fun w h => heldRun_value (by kernel_rfl) h) ?_
                   refine wpHeld_nil ?_
                   intro Y h
                   have F5 := Lib.hid h
                   clear h F4
                   go_wp2_with fail
                   go_ret
                   exact ⟨false, rfl, ⟨fun q => (by cases q), fun q => absurd q (fun q => Q2.out (q.pv (by have := Q1.out; have := S1.out; omega)))⟩, F5.out.2⟩
              ·have Z3 := Lib.hid c0
               clear c0
               go_upto_region 8 with (fail)
               refine region_held_all (fun X => Blk X g 37 hd.L.toArray ∧ Below w.heap.size w X) (by kernel_rfl) (by kernel_rfl) (by exact ⟨F3.out.1.below (Below.drew (Below.refl _ _)), F3.out.2.trans (Below.drew (Below.refl _ _))⟩) ?_
               refine zH (.pointer (some ⟨g, 92, none⟩)) (fun w h => heldRun_value (by kernel_rfl) h) ?_
               refine zH (.int .i64 hd.sz) (fun w h => heldRun_value (run_load_one _ _ _ 3 _ _ rfl (g) (92) rfl (hcell h.1 (Hdr.c92 HO.out)) (by kernel_rfl)) h) ?_
               refine zH (.bool true) (fun w h => heldRun_value (run_gei Try.underlying3 rfl rfl rfl (by have := Z1.out; rw [decide_eq_true_eq]; omega)) h) ?_
               refine zH (.bool true) (fun w h => heldRun_value (by kernel_rfl) h) ?_
               refine zH (.pointer (some ⟨g, 92, none⟩)) (fun w h => heldRun_value (by kernel_rfl) h) ?_
               refine zH (.int .i64 hd.sz) (fun w h => heldRun_value (run_load_one _ _ _ 3 _ _ rfl (g) (92) rfl (hcell h.1 (Hdr.c92 HO.out)) (by kernel_rfl)) h) ?_
               refine zH (.bool true) (fun w h => heldRun_value (run_lei Try.underlying3 rfl rfl rfl (by have := Z2.out; rw [decide_eq_true_eq]; omega)) h) ?_
               refine zH (.bool true) (fun w h => heldRun_value (by kernel_rfl) h) ?_
               refine zH (.bool true) (fun w h => heldRun_value (by kernel_rfl) h) ?_
               refine zH (.pointer (some ⟨g, 92, none⟩)) (fun w h => heldRun_value (by kernel_rfl) h) ?_
               refine zH (.int .i64 hd.sz) (fun w h => heldRun_value (run_load_one _ _ _ 3 _ _ rfl (g) (92) rfl (hcell h.1 (Hdr.c92 HO.out)) (by kernel_rfl)) h) ?_
               refine zH (.int .i64 (nb : Int)) (fun w h => heldRun_value (run_subi Try.underlying3 rfl rfl rfl _ (by have := NB.out; rw [wrap_in _ (by omega) (by omega)]; omega)) h) ?_
               refine wpHeld_call (.int .i64 (bb : Nat)) 33 #[.int .i64 (nb : Int)] rfl (fun w => by kernel_rfl) (fun X h => (refbucket_any nb X).mono fun e V he => ⟨by rw [he.1, BB.out], h.1.below he.2, h.2.trans (he.2.mono h.2.size)⟩) ?_
               simp only [Act.put, List.setIfInBounds_toArray, List.set_cons_zero, List.set_cons_succ]
               refine zH (.pointer (some ⟨g, 92, none⟩)) (fun w h => heldRun_value (by kernel_rfl) h) ?_
               refine zH (.int .i64 hd.sz) (fun w h => heldRun_value (run_load_one _ _ _ 3 _ _ rfl (g) (92) rfl (hcell h.1 (Hdr.c92 HO.out)) (by kernel_rfl)) h) ?_
               refine zH (.int .i64 ((nb + 1 : Nat) : Int)) (fun w h => heldRun_value (run_subi Try.underlying3 rfl rfl rfl _ (by have := NB.out; rw [wrap_in _ (by omega) (by omega)]; omega)) h) ?_
               refine zH (.bool false) (fun w h => heldRun_value (run_eqi Try.underlying3 rfl rfl rfl (by have := Z3.out; rw [decide_eq_false_iff_not]; omega)) h) ?_
               refine zH (.bool false) (fun w h => heldRun_value (by kernel_rfl) h) ?_
               refine zH (.bool false) (fun w h => heldRun_value (by kernel_rfl) h) ?_
               refine wpHeld_nil ?_
               intro X h
               have F4 := Lib.hid h
               clear h F3
               by_cases c0 : 1 < hd.sq
               ·have Q1 := Lib.hid c0
                clear c0
                go_upto_region 9 with (fail)
                refine wp_region_lit ?_
                refine zP (.pointer (some ⟨g, 1, none⟩)) ?_
                refine zQ (.int .u64 hd.sq) (run_load_one _ _ _ 22 _ _ rfl (g) (1) rfl (hcell F4.out.1 (Hdr.c1)) (by kernel_rfl)) ?_
                refine zQ (.bool true) (run_gti Try.underlying22 rfl rfl rfl (by have := Q1.out; rw [decide_eq_true_eq]; omega)) ?_
                refine zP (.bool true) ?_
                refine zG ?_
                refine zG ?_
                refine zG ?_
                refine zG ?_
                refine zP (.bool true) ?_
                refine zP (.bool true) ?_
                obtain ⟨cz, hcz⟩ : ∃ z, hd.ct = z := ⟨_, rfl⟩
                have HC := Lib.hid hcz
                clear hcz
                cases cz
                ·go_upto_region 10 with (fail)
                 refine wp_region_lit ?_
                 refine zP (.pointer (some ⟨g, 35, none⟩)) ?_
                 refine zQ (.bool false) (run_load_one _ _ _ 4 _ _ rfl (g) (35) rfl (hcell F4.out.1 ((Hdr.c35 HO.out).trans (by rw [HC.out]))) (by kernel_rfl)) ?_
                 refine zP (.bool true) ?_
                 refine zP (.bool true) ?_
                 refine zG ?_
                 refine zG ?_
                 refine zG ?_
                 refine zG ?_
                 refine zG ?_
                 refine zG ?_
                 refine zG ?_
                 refine zG ?_
                 refine zG ?_
                 refine zG ?_
                 refine zP (.bool true) ?_
                 refine zP (.bool true) ?_
                 go_upto_region 11 with (fail)
                 refine region_held_all (fun X => Blk X g 37 hd.L.toArray ∧ Below w.heap.size w X) (by kernel_rfl) (by kernel_rfl) (by exact ⟨F4.out.1.below (Below.drew (Below.refl _ _)), F4.out.2.trans (Below.drew (Below.refl _ _))⟩) ?_
                 refine zH (.bool false) (fun w h => heldRun_value (by kernel_rfl) h) ?_
                 refine zH (.bool false) (fun w h => heldRun_value (by kernel_rfl) h) ?_
                 refine zJ ?_
                 refine zH (.bool false) (fun w h => heldRun_value (by kernel_rfl) h) ?_
                 refine zH (.bool false) (fun w h => heldRun_value (by kernel_rfl) h) ?_
                 refine zJ ?_
                 refine zH (.bool false) (fun w h => heldRun_value (by kernel_rfl) h) ?_
                 refine zH (.bool false) (fun w h => heldRun_value (by kernel_rfl) h) ?_
                 refine zJ ?_
                 refine zJ ?_
                 refine zJ ?_
                 refine zJ ?_
                 refine zJ ?_
                 refine zJ ?_
                 refine zJ ?_
                 refine zJ ?_
                 refine zJ ?_
                 refine zJ ?_
                 refine zH (.bool false) (fun w h => heldRun_value (by kernel_rfl) h) ?_
                 refine zH (.bool false) (fun w h => heldRun_value (by kernel_rfl) h) ?_
                 refine wpHeld_nil ?_
                 intro Y h
                 have F5 := Lib.hid h
                 clear h F4
                 go_wp2_with fail
                 go_ret
                 exact ⟨false, rfl, ⟨fun q => (by cases q), fun q => absurd q (fun q => by have r := q.sz; rw [show hd.sz - 16 = (nb : Int) + 1 by have := NB.out; omega] at r; have r2 := (bk_is NB.out.2.1 NB.out.2.2).2 r; rw [BB.out] at r2; exact Z3.out r2)⟩, F5.out.2⟩
                ·by_cases c0 : hd.tn = 0
                 ·have I2 := Lib.hid c0
                  clear c0
                  by_cases c0 : hd.it = (List.replicate 16 0)
                  ·have I1 := Lib.hid c0
                   clear c0
                   go_upto_region 10 with (fail)
                   refine wp_region_lit ?_
                   refine zP (.pointer (some ⟨g, 35, none⟩)) ?_
                   refine zQ (.bool true) (run_load_one _ _ _ 4 _ _ rfl (g) (35) rfl (hcell F4.out.1 ((Hdr.c35 HO.out).trans (by rw [HC.out]))) (by kernel_rfl)) ?_
                   refine zP (.bool false) ?_
                   refine zP (.bool false) ?_
                   refine zP (.pointer (some ⟨g, 53, none⟩)) ?_
                   refine zQ (.slice hd.ta hd.tn hd.tc) (run_load_one _ _ _ 35 _ _ rfl (g) (53) rfl (hcell F4.out.1 (Hdr.c53 HO.out)) (by kernel_rfl)) ?_
                   refine zP (.int .i64 (hd.tn : Int)) ?_
                   refine zQ (.bool true) (run_eqi Try.underlying3 rfl rfl rfl (by have := I2.out; rw [decide_eq_true_eq]; omega)) ?_
                   refine zP (.bool true) ?_
                   refine zP (.pointer (some ⟨g, 37, none⟩)) ?_
                   refine zQ (.agg (u8l hd.it).toArray) (run_load_mid _ _ _ 34 _ rfl g 37 rfl (u8l hd.it) _ (Hdr.rit HO.out F4.out.1) Try.underlying34 rfl (by rw [u8l_len, HO.out.il]; kernel_rfl)) ?_
                   refine zP (.agg (u8l (List.replicate 16 0)).toArray) ?_
                   refine zQ (.bool true) (run_eq16 _ _ _ _ _ hd.it (List.replicate 16 0) true HO.out.il List.length_replicate rfl rfl rfl (by rw [decide_eq_true I1.out])) ?_
                   refine zP (.bool true) ?_
                   refine zP (.bool true) ?_
                   refine zP (.bool true) ?_
                   go_upto_region 11 with (fail)
                   refine region_held_all (fun X => Blk X g 37 hd.L.toArray ∧ Below w.heap.size w X) (by kernel_rfl) (by kernel_rfl) (by exact ⟨F4.out.1.below (Below.drew (Below.refl _ _)), F4.out.2.trans (Below.drew (Below.refl _ _))⟩) ?_
                   refine zH (.bool false) (fun w h => heldRun_value (by kernel_rfl) h) ?_
                   refine zH (.bool false) (fun w h => heldRun_value (by kernel_rfl) h) ?_
                   refine zJ ?_
                   refine zH (.bool false) (fun w h => heldRun_value (by kernel_rfl) h) ?_
                   refine zH (.bool false) (fun w h => heldRun_value (by kernel_rfl) h) ?_
                   refine zJ ?_
                   refine zH (.bool false) (fun w h => heldRun_value (by kernel_rfl) h) ?_
                   refine zH (.bool false) (fun w h => heldRun_value (by kernel_rfl) h) ?_
                   refine zJ ?_
                   refine zJ ?_
                   refine zJ ?_
                   refine zJ ?_
                   refine zJ ?_
                   refine zJ ?_
                   refine zJ ?_
                   refine zJ ?_
                   refine zJ ?_
                   refine zJ ?_
                   refine zH (.bool false) (fun w h => heldRun_value (by kernel_rfl) h) ?_
                   refine zH (.bool false) (fun w h => heldRun_value (by kernel_rfl) h) ?_
                   refine wpHeld_nil ?_
                   intro Y h
                   have F5 := Lib.hid h
                   clear h F4
                   go_wp2_with fail
                   go_ret
                   exact ⟨false, rfl, ⟨fun q => (by cases q), fun q => absurd q (fun q => by have r := q.sz; rw [show hd.sz - 16 = (nb : Int) + 1 by have := NB.out; omega] at r; have r2 := (bk_is NB.out.2.1 NB.out.2.2).2 r; rw [BB.out] at r2; exact Z3.out r2)⟩, F5.out.2⟩
                  ·have I1 := Lib.hid c0
                   clear c0
                   go_upto_region 10 with (fail)
                   refine wp_region_lit ?_
                   refine zP (.pointer (some ⟨g, 35, none⟩)) ?_
                   refine zQ (.bool true) (run_load_one _ _ _ 4 _ _ rfl (g) (35) rfl (hcell F4.out.1 ((Hdr.c35 HO.out).trans (by rw [HC.out]))) (by kernel_rfl)) ?_
                   refine zP (.bool false) ?_
                   refine zP (.bool false) ?_
                   refine zP (.pointer (some ⟨g, 53, none⟩)) ?_
                   refine zQ (.slice hd.ta hd.tn hd.tc) (run_load_one _ _ _ 35 _ _ rfl (g) (53) rfl (hcell F4.out.1 (Hdr.c53 HO.out)) (by kernel_rfl)) ?_
                   refine zP (.int .i64 (hd.tn : Int)) ?_
                   refine zQ (.bool true) (run_eqi Try.underlying3 rfl rfl rfl (by have := I2.out; rw [decide_eq_true_eq]; omega)) ?_
                   refine zP (.bool true) ?_
                   refine zP (.pointer (some ⟨g, 37, none⟩)) ?_
                   refine zQ (.agg (u8l hd.it).toArray) (run_load_mid _ _ _ 34 _ rfl g 37 rfl (u8l hd.it) _ (Hdr.rit HO.out F4.out.1) Try.underlying34 rfl (by rw [u8l_len, HO.out.il]; kernel_rfl)) ?_
                   refine zP (.agg (u8l (List.replicate 16 0)).toArray) ?_
                   refine zQ (.bool false) (run_eq16 _ _ _ _ _ hd.it (List.replicate 16 0) false HO.out.il List.length_replicate rfl rfl rfl (by rw [decide_eq_false I1.out])) ?_
                   refine zP (.bool false) ?_
                   refine zP (.bool false) ?_
                   refine zP (.bool false) ?_
                   go_upto_region 11 with (fail)
                   refine region_held_all (fun X => Blk X g 37 hd.L.toArray ∧ Below w.heap.size w X) (by kernel_rfl) (by kernel_rfl) (by exact ⟨F4.out.1.below (Below.drew (Below.refl _ _)), F4.out.2.trans (Below.drew (Below.refl _ _))⟩) ?_
                   refine zH (.bool false) (fun w h => heldRun_value (by kernel_rfl) h) ?_
                   refine zH (.bool false) (fun w h => heldRun_value (by kernel_rfl) h) ?_
                   refine zJ ?_
                   refine zH (.bool false) (fun w h => heldRun_value (by kernel_rfl) h) ?_
                   refine zH (.bool false) (fun w h => heldRun_value (by kernel_rfl) h) ?_
                   refine zJ ?_
                   refine zH (.bool false) (fun w h => heldRun_value (by kernel_rfl) h) ?_
                   refine zH (.bool false) (fun w h => heldRun_value (by kernel_rfl) h) ?_
                   refine zJ ?_
                   refine zJ ?_
                   refine zJ ?_
                   refine zJ ?_
                   refine zJ ?_
                   refine zJ ?_
                   refine zJ ?_
                   refine zJ ?_
                   refine zJ ?_
                   refine zJ ?_
                   refine zH (.bool false) (fun w h => heldRun_value (by kernel_rfl) h) ?_
                   refine zH (.bool false) (fun w h => heldRun_value (by kernel_rfl) h) ?_
                   refine wpHeld_nil ?_
                   intro Y h
                   have F5 := Lib.hid h
                   clear h F4
                   go_wp2_with fail
                   go_ret
                   exact ⟨false, rfl, ⟨fun q => (by cases q), fun q => absurd q (fun q => by have r := q.sz; rw [show hd.sz - 16 = (nb : Int) + 1 by have := NB.out; omega] at r; have r2 := (bk_is NB.out.2.1 NB.out.2.2).2 r; rw [BB.out] at r2; exact Z3.out r2)⟩, F5.out.2⟩
                 ·have I2 := Lib.hid c0
                  clear c0
                  go_upto_region 10 with (fail)
                  refine wp_region_lit ?_
                  refine zP (.pointer (some ⟨g, 35, none⟩)) ?_
                  refine zQ (.bool true) (run_load_one _ _ _ 4 _ _ rfl (g) (35) rfl (hcell F4.out.1 ((Hdr.c35 HO.out).trans (by rw [HC.out]))) (by kernel_rfl)) ?_
                  refine zP (.bool false) ?_
                  refine zP (.bool false) ?_
                  refine zP (.pointer (some ⟨g, 53, none⟩)) ?_
                  refine zQ (.slice hd.ta hd.tn hd.tc) (run_load_one _ _ _ 35 _ _ rfl (g) (53) rfl (hcell F4.out.1 (Hdr.c53 HO.out)) (by kernel_rfl)) ?_
                  refine zP (.int .i64 (hd.tn : Int)) ?_
                  refine zQ (.bool false) (run_eqi Try.underlying3 rfl rfl rfl (by have := I2.out; rw [decide_eq_false_iff_not]; omega)) ?_
                  refine zP (.bool false) ?_
                  refine zG ?_
                  refine zG ?_
                  refine zG ?_
                  refine zG ?_
                  refine zP (.bool false) ?_
                  refine zP (.bool false) ?_
                  refine zP (.bool false) ?_
                  go_upto_region 11 with (fail)
                  refine region_held_all (fun X => Blk X g 37 hd.L.toArray ∧ Below w.heap.size w X) (by kernel_rfl) (by kernel_rfl) (by exact ⟨F4.out.1.below (Below.drew (Below.refl _ _)), F4.out.2.trans (Below.drew (Below.refl _ _))⟩) ?_
                  refine zH (.bool false) (fun w h => heldRun_value (by kernel_rfl) h) ?_
                  refine zH (.bool false) (fun w h => heldRun_value (by kernel_rfl) h) ?_
                  refine zJ ?_
                  refine zH (.bool false) (fun w h => heldRun_value (by kernel_rfl) h) ?_
                  refine zH (.bool false) (fun w h => heldRun_value (by kernel_rfl) h) ?_
                  refine zJ ?_
                  refine zH (.bool false) (fun w h => heldRun_value (by kernel_rfl) h) ?_
                  refine zH (.bool false) (fun w h => heldRun_value (by kernel_rfl) h) ?_
                  refine zJ ?_
                  refine zJ ?_
                  refine zJ ?_
                  refine zJ ?_
                  refine zJ ?_
                  refine zJ ?_
                  refine zJ ?_
                  refine zJ ?_
                  refine zJ ?_
                  refine zJ ?_
                  refine zH (.bool false) (fun w h => heldRun_value (by kernel_rfl) h) ?_
                  refine zH (.bool false) (fun w h => heldRun_value (by kernel_rfl) h) ?_
                  refine wpHeld_nil ?_
                  intro Y h
                  have F5 := Lib.hid h
                  clear h F4
                  go_wp2_with fail
                  go_ret
                  exact ⟨false, rfl, ⟨fun q => (by cases q), fun q => absurd q (fun q => by have r := q.sz; rw [show hd.sz - 16 = (nb : Int) + 1 by have := NB.out; omega] at r; have r2 := (bk_is NB.out.2.1 NB.out.2.2).2 r; rw [BB.out] at r2; exact Z3.out r2)⟩, F5.out.2⟩
               ·have Q1 := Lib.hid c0
                clear c0
                by_cases c0 : hd.pv = (List.replicate 32 0)
                ·have Q2 := Lib.hid c0
                 clear c0
                 go_upto_region 9 with (fail)
                 refine wp_region_lit ?_
                 refine zP (.pointer (some ⟨g, 1, none⟩)) ?_
                 refine zQ (.int .u64 hd.sq) (run_load_one _ _ _ 22 _ _ rfl (g) (1) rfl (hcell F4.out.1 (Hdr.c1)) (by kernel_rfl)) ?_
                 refine zQ (.bool false) (run_gti Try.underlying22 rfl rfl rfl (by have := Q1.out; rw [decide_eq_false_iff_not]; omega)) ?_
                 refine zP (.bool false) ?_
                 refine zP (.pointer (some ⟨g, 2, none⟩)) ?_
                 refine zQ (.agg (u8l hd.pv).toArray) (run_load_mid _ _ _ 32 _ rfl g 2 rfl (u8l hd.pv) _ (Hdr.rpv HO.out F4.out.1) Try.underlying32 rfl (by rw [u8l_len, HO.out.pl]; kernel_rfl)) ?_
                 refine zP (.agg (u8l (List.replicate 32 0)).toArray) ?_
                 refine zQ (.bool true) (run_eq32 _ _ _ _ _ hd.pv (List.replicate 32 0) true HO.out.pl List.length_replicate rfl rfl rfl (by rw [decide_eq_true Q2.out])) ?_
                 refine zP (.bool true) ?_
                 refine zP (.bool true) ?_
                 obtain ⟨cz, hcz⟩ : ∃ z, hd.ct = z := ⟨_, rfl⟩
                 have HC := Lib.hid hcz
                 clear hcz
                 cases cz
                 ·go_upto_region 10 with (fail)
                  refine wp_region_lit ?_
                  refine zP (.pointer (some ⟨g, 35, none⟩)) ?_
                  refine zQ (.bool false) (run_load_one _ _ _ 4 _ _ rfl (g) (35) rfl (hcell F4.out.1 ((Hdr.c35 HO.out).trans (by rw [HC.out]))) (by kernel_rfl)) ?_
                  refine zP (.bool true) ?_
                  refine zP (.bool true) ?_
                  refine zG ?_
                  refine zG ?_
                  refine zG ?_
                  refine zG ?_
                  refine zG ?_
                  refine zG ?_
                  refine zG ?_
                  refine zG ?_
                  refine zG ?_
                  refine zG ?_
                  refine zP (.bool true) ?_
                  refine zP (.bool true) ?_
                  go_upto_region 11 with (fail)
                  refine region_held_all (fun X => Blk X g 37 hd.L.toArray ∧ Below w.heap.size w X) (by kernel_rfl) (by kernel_rfl) (by exact ⟨F4.out.1.below (Below.drew (Below.refl _ _)), F4.out.2.trans (Below.drew (Below.refl _ _))⟩) ?_
                  refine zH (.bool false) (fun w h => heldRun_value (by kernel_rfl) h) ?_
                  refine zH (.bool false) (fun w h => heldRun_value (by kernel_rfl) h) ?_
                  refine zJ ?_
                  refine zH (.bool false) (fun w h => heldRun_value (by kernel_rfl) h) ?_
                  refine zH (.bool false) (fun w h => heldRun_value (by kernel_rfl) h) ?_
                  refine zJ ?_
                  refine zH (.bool false) (fun w h => heldRun_value (by kernel_rfl) h) ?_
                  refine zH (.bool false) (fun w h => heldRun_value (by kernel_rfl) h) ?_
                  refine zJ ?_
                  refine zJ ?_
                  refine zJ ?_
                  refine zJ ?_
                  refine zJ ?_
                  refine zJ ?_
                  refine zJ ?_
                  refine zJ ?_
                  refine zJ ?_
                  refine zJ ?_
                  refine zH (.bool false) (fun w h => heldRun_value (by kernel_rfl) h) ?_
                  refine zH (.bool false) (fun w h => heldRun_value (by kernel_rfl) h) ?_
                  refine wpHeld_nil ?_
                  intro Y h
                  have F5 := Lib.hid h
                  clear h F4
                  go_wp2_with fail
                  go_ret
                  exact ⟨false, rfl, ⟨fun q => (by cases q), fun q => absurd q (fun q => by have r := q.sz; rw [show hd.sz - 16 = (nb : Int) + 1 by have := NB.out; omega] at r; have r2 := (bk_is NB.out.2.1 NB.out.2.2).2 r; rw [BB.out] at r2; exact Z3.out r2)⟩, F5.out.2⟩
                 ·by_cases c0 : hd.tn = 0
                  ·have I2 := Lib.hid c0
                   clear c0
                   by_cases c0 : hd.it = (List.replicate 16 0)
                   ·have I1 := Lib.hid c0
                    clear c0
                    go_upto_region 10 with (fail)
                    refine wp_region_lit ?_
                    refine zP (.pointer (some ⟨g, 35, none⟩)) ?_
                    refine zQ (.bool true) (run_load_one _ _ _ 4 _ _ rfl (g) (35) rfl (hcell F4.out.1 ((Hdr.c35 HO.out).trans (by rw [HC.out]))) (by kernel_rfl)) ?_
                    refine zP (.bool false) ?_
                    refine zP (.bool false) ?_
                    refine zP (.pointer (some ⟨g, 53, none⟩)) ?_
                    refine zQ (.slice hd.ta hd.tn hd.tc) (run_load_one _ _ _ 35 _ _ rfl (g) (53) rfl (hcell F4.out.1 (Hdr.c53 HO.out)) (by kernel_rfl)) ?_
                    refine zP (.int .i64 (hd.tn : Int)) ?_
                    refine zQ (.bool true) (run_eqi Try.underlying3 rfl rfl rfl (by have := I2.out; rw [decide_eq_true_eq]; omega)) ?_
                    refine zP (.bool true) ?_
                    refine zP (.pointer (some ⟨g, 37, none⟩)) ?_
                    refine zQ (.agg (u8l hd.it).toArray) (run_load_mid _ _ _ 34 _ rfl g 37 rfl (u8l hd.it) _ (Hdr.rit HO.out F4.out.1) Try.underlying34 rfl (by rw [u8l_len, HO.out.il]; kernel_rfl)) ?_
                    refine zP (.agg (u8l (List.replicate 16 0)).toArray) ?_
                    refine zQ (.bool true) (run_eq16 _ _ _ _ _ hd.it (List.replicate 16 0) true HO.out.il List.length_replicate rfl rfl rfl (by rw [decide_eq_true I1.out])) ?_
                    refine zP (.bool true) ?_
                    refine zP (.bool true) ?_
                    refine zP (.bool true) ?_
                    go_upto_region 11 with (fail)
                    refine region_held_all (fun X => Blk X g 37 hd.L.toArray ∧ Below w.heap.size w X) (by kernel_rfl) (by kernel_rfl) (by exact ⟨F4.out.1.below (Below.drew (Below.refl _ _)), F4.out.2.trans (Below.drew (Below.refl _ _))⟩) ?_
                    refine zH (.bool false) (fun w h => heldRun_value (by kernel_rfl) h) ?_
                    refine zH (.bool false) (fun w h => heldRun_value (by kernel_rfl) h) ?_
                    refine zJ ?_
                    refine zH (.bool false) (fun w h => heldRun_value (by kernel_rfl) h) ?_
                    refine zH (.bool false) (fun w h => heldRun_value (by kernel_rfl) h) ?_
                    refine zJ ?_
                    refine zH (.bool false) (fun w h => heldRun_value (by kernel_rfl) h) ?_
                    refine zH (.bool false) (fun w h => heldRun_value (by kernel_rfl) h) ?_
                    refine zJ ?_
                    refine zJ ?_
                    refine zJ ?_
                    refine zJ ?_
                    refine zJ ?_
                    refine zJ ?_
                    refine zJ ?_
                    refine zJ ?_
                    refine zJ ?_
                    refine zJ ?_
                    refine zH (.bool false) (fun w h => heldRun_value (by kernel_rfl) h) ?_
                    refine zH (.bool false) (fun w h => heldRun_value (by kernel_rfl) h) ?_
                    refine wpHeld_nil ?_
                    intro Y h
                    have F5 := Lib.hid h
                    clear h F4
                    go_wp2_with fail
                    go_ret
                    exact ⟨false, rfl, ⟨fun q => (by cases q), fun q => absurd q (fun q => by have r := q.sz; rw [show hd.sz - 16 = (nb : Int) + 1 by have := NB.out; omega] at r; have r2 := (bk_is NB.out.2.1 NB.out.2.2).2 r; rw [BB.out] at r2; exact Z3.out r2)⟩, F5.out.2⟩
                   ·have I1 := Lib.hid c0
                    clear c0
                    go_upto_region 10 with (fail)
                    refine wp_region_lit ?_
                    refine zP (.pointer (some ⟨g, 35, none⟩)) ?_
                    refine zQ (.bool true) (run_load_one _ _ _ 4 _ _ rfl (g) (35) rfl (hcell F4.out.1 ((Hdr.c35 HO.out).trans (by rw [HC.out]))) (by kernel_rfl)) ?_
                    refine zP (.bool false) ?_
                    refine zP (.bool false) ?_
                    refine zP (.pointer (some ⟨g, 53, none⟩)) ?_
                    refine zQ (.slice hd.ta hd.tn hd.tc) (run_load_one _ _ _ 35 _ _ rfl (g) (53) rfl (hcell F4.out.1 (Hdr.c53 HO.out)) (by kernel_rfl)) ?_
                    refine zP (.int .i64 (hd.tn : Int)) ?_
                    refine zQ (.bool true) (run_eqi Try.underlying3 rfl rfl rfl (by have := I2.out; rw [decide_eq_true_eq]; omega)) ?_
                    refine zP (.bool true) ?_
                    refine zP (.pointer (some ⟨g, 37, none⟩)) ?_
                    refine zQ (.agg (u8l hd.it).toArray) (run_load_mid _ _ _ 34 _ rfl g 37 rfl (u8l hd.it) _ (Hdr.rit HO.out F4.out.1) Try.underlying34 rfl (by rw [u8l_len, HO.out.il]; kernel_rfl)) ?_
                    refine zP (.agg (u8l (List.replicate 16 0)).toArray) ?_
                    refine zQ (.bool false) (run_eq16 _ _ _ _ _ hd.it (List.replicate 16 0) false HO.out.il List.length_replicate rfl rfl rfl (by rw [decide_eq_false I1.out])) ?_
                    refine zP (.bool false) ?_
                    refine zP (.bool false) ?_
                    refine zP (.bool false) ?_
                    go_upto_region 11 with (fail)
                    refine region_held_all (fun X => Blk X g 37 hd.L.toArray ∧ Below w.heap.size w X) (by kernel_rfl) (by kernel_rfl) (by exact ⟨F4.out.1.below (Below.drew (Below.refl _ _)), F4.out.2.trans (Below.drew (Below.refl _ _))⟩) ?_
                    refine zH (.bool false) (fun w h => heldRun_value (by kernel_rfl) h) ?_
                    refine zH (.bool false) (fun w h => heldRun_value (by kernel_rfl) h) ?_
                    refine zJ ?_
                    refine zH (.bool false) (fun w h => heldRun_value (by kernel_rfl) h) ?_
                    refine zH (.bool false) (fun w h => heldRun_value (by kernel_rfl) h) ?_
                    refine zJ ?_
                    refine zH (.bool false) (fun w h => heldRun_value (by kernel_rfl) h) ?_
                    refine zH (.bool false) (fun w h => heldRun_value (by kernel_rfl) h) ?_
                    refine zJ ?_
                    refine zJ ?_
                    refine zJ ?_
                    refine zJ ?_
                    refine zJ ?_
                    refine zJ ?_
                    refine zJ ?_
                    refine zJ ?_
                    refine zJ ?_
                    refine zJ ?_
                    refine zH (.bool false) (fun w h => heldRun_value (by kernel_rfl) h) ?_
                    refine zH (.bool false) (fun w h => heldRun_value (by kernel_rfl) h) ?_
                    refine wpHeld_nil ?_
                    intro Y h
                    have F5 := Lib.hid h
                    clear h F4
                    go_wp2_with fail
                    go_ret
                    exact ⟨false, rfl, ⟨fun q => (by cases q), fun q => absurd q (fun q => by have r := q.sz; rw [show hd.sz - 16 = (nb : Int) + 1 by have := NB.out; omega] at r; have r2 := (bk_is NB.out.2.1 NB.out.2.2).2 r; rw [BB.out] at r2; exact Z3.out r2)⟩, F5.out.2⟩
                  ·have I2 := Lib.hid c0
                   clear c0
                   go_upto_region 10 with (fail)
                   refine wp_region_lit ?_
                   refine zP (.pointer (some ⟨g, 35, none⟩)) ?_
                   refine zQ (.bool true) (run_load_one _ _ _ 4 _ _ rfl (g) (35) rfl (hcell F4.out.1 ((Hdr.c35 HO.out).trans (by rw [HC.out]))) (by kernel_rfl)) ?_
                   refine zP (.bool false) ?_
                   refine zP (.bool false) ?_
                   refine zP (.pointer (some ⟨g, 53, none⟩)) ?_
                   refine zQ (.slice hd.ta hd.tn hd.tc) (run_load_one _ _ _ 35 _ _ rfl (g) (53) rfl (hcell F4.out.1 (Hdr.c53 HO.out)) (by kernel_rfl)) ?_
                   refine zP (.int .i64 (hd.tn : Int)) ?_
                   refine zQ (.bool false) (run_eqi Try.underlying3 rfl rfl rfl (by have := I2.out; rw [decide_eq_false_iff_not]; omega)) ?_
                   refine zP (.bool false) ?_
                   refine zG ?_
                   refine zG ?_
                   refine zG ?_
                   refine zG ?_
                   refine zP (.bool false) ?_
                   refine zP (.bool false) ?_
                   refine zP (.bool false) ?_
                   go_upto_region 11 with (fail)
                   refine region_held_all (fun X => Blk X g 37 hd.L.toArray ∧ Below w.heap.size w X) (by kernel_rfl) (by kernel_rfl) (by exact ⟨F4.out.1.below (Below.drew (Below.refl _ _)), F4.out.2.trans (Below.drew (Below.refl _ _))⟩) ?_
                   refine zH (.bool false) (fun w h => heldRun_value (by kernel_rfl) h) ?_
                   refine zH (.bool false) (fun w h => heldRun_value (by kernel_rfl) h) ?_
                   refine zJ ?_
                   refine zH (.bool false) (fun w h => heldRun_value (by kernel_rfl) h) ?_
                   refine zH (.bool false) (fun w h => heldRun_value (by kernel_rfl) h) ?_
                   refine zJ ?_
                   refine zH (.bool false) (fun w h => heldRun_value (by kernel_rfl) h) ?_
                   refine zH (.bool false) (fun w h => heldRun_value (by kernel_rfl) h) ?_
                   refine zJ ?_
                   refine zJ ?_
                   refine zJ ?_
                   refine zJ ?_
                   refine zJ ?_
                   refine zJ ?_
                   refine zJ ?_
                   refine zJ ?_
                   refine zJ ?_
                   refine zJ ?_
                   refine zH (.bool false) (fun w h => heldRun_value (by kernel_rfl) h) ?_
                   refine zH (.bool false) (fun w h => heldRun_value (by kernel_rfl) h) ?_
                   refine wpHeld_nil ?_
                   intro Y h
                   have F5 := Lib.hid h
                   clear h F4
                   go_wp2_with fail
                   go_ret
                   exact ⟨false, rfl, ⟨fun q => (by cases q), fun q => absurd q (fun q => by have r := q.sz; rw [show hd.sz - 16 = (nb : Int) + 1 by have := NB.out; omega] at r; have r2 := (bk_is NB.out.2.1 NB.out.2.2).2 r; rw [BB.out] at r2; exact Z3.out r2)⟩, F5.out.2⟩
                ·have Q2 := Lib.hid c0
                 clear c0
                 go_upto_region 9 with (fail)
                 refine wp_region_lit ?_
                 refine zP (.pointer (some ⟨g, 1, none⟩)) ?_
                 refine zQ (.int .u64 hd.sq) (run_load_one _ _ _ 22 _ _ rfl (g) (1) rfl (hcell F4.out.1 (Hdr.c1)) (by kernel_rfl)) ?_
                 refine zQ (.bool false) (run_gti Try.underlying22 rfl rfl rfl (by have := Q1.out; rw [decide_eq_false_iff_not]; omega)) ?_
                 refine zP (.bool false) ?_
                 refine zP (.pointer (some ⟨g, 2, none⟩)) ?_
                 refine zQ (.agg (u8l hd.pv).toArray) (run_load_mid _ _ _ 32 _ rfl g 2 rfl (u8l hd.pv) _ (Hdr.rpv HO.out F4.out.1) Try.underlying32 rfl (by rw [u8l_len, HO.out.pl]; kernel_rfl)) ?_
                 refine zP (.agg (u8l (List.replicate 32 0)).toArray) ?_
                 refine zQ (.bool false) (run_eq32 _ _ _ _ _ hd.pv (List.replicate 32 0) false HO.out.pl List.length_replicate rfl rfl rfl (by rw [decide_eq_false Q2.out])) ?_
                 refine zP (.bool false) ?_
                 refine zP (.bool false) ?_
                 obtain ⟨cz, hcz⟩ : ∃ z, hd.ct = z := ⟨_, rfl⟩
                 have HC := Lib.hid hcz
                 clear hcz
                 cases cz
                 ·go_upto_region 10 with (fail)
                  refine wp_region_lit ?_
                  refine zP (.pointer (some ⟨g, 35, none⟩)) ?_
                  refine zQ (.bool false) (run_load_one _ _ _ 4 _ _ rfl (g) (35) rfl (hcell F4.out.1 ((Hdr.c35 HO.out).trans (by rw [HC.out]))) (by kernel_rfl)) ?_
                  refine zP (.bool true) ?_
                  refine zP (.bool true) ?_
                  refine zG ?_
                  refine zG ?_
                  refine zG ?_
                  refine zG ?_
                  refine zG ?_
                  refine zG ?_
                  refine zG ?_
                  refine zG ?_
                  refine zG ?_
                  refine zG ?_
                  refine zP (.bool true) ?_
                  refine zP (.bool true) ?_
                  go_upto_region 11 with (fail)
                  refine region_held_all (fun X => Blk X g 37 hd.L.toArray ∧ Below w.heap.size w X) (by kernel_rfl) (by kernel_rfl) (by exact ⟨F4.out.1.below (Below.drew (Below.refl _ _)), F4.out.2.trans (Below.drew (Below.refl _ _))⟩) ?_
                  refine zH (.bool false) (fun w h => heldRun_value (by kernel_rfl) h) ?_
                  refine zH (.bool false) (fun w h => heldRun_value (by kernel_rfl) h) ?_
                  refine zJ ?_
                  refine zH (.bool false) (fun w h => heldRun_value (by kernel_rfl) h) ?_
                  refine zH (.bool false) (fun w h => heldRun_value (by kernel_rfl) h) ?_
                  refine zJ ?_
                  refine zH (.bool false) (fun w h => heldRun_value (by kernel_rfl) h) ?_
                  refine zH (.bool false) (fun w h => heldRun_value (by kernel_rfl) h) ?_
                  refine zJ ?_
                  refine zJ ?_
                  refine zJ ?_
                  refine zJ ?_
                  refine zJ ?_
                  refine zJ ?_
                  refine zJ ?_
                  refine zJ ?_
                  refine zJ ?_
                  refine zJ ?_
                  refine zH (.bool false) (fun w h => heldRun_value (by kernel_rfl) h) ?_
                  refine zH (.bool false) (fun w h => heldRun_value (by kernel_rfl) h) ?_
                  refine wpHeld_nil ?_
                  intro Y h
                  have F5 := Lib.hid h
                  clear h F4
                  go_wp2_with fail
                  go_ret
                  exact ⟨false, rfl, ⟨fun q => (by cases q), fun q => absurd q (fun q => by have r := q.sz; rw [show hd.sz - 16 = (nb : Int) + 1 by have := NB.out; omega] at r; have r2 := (bk_is NB.out.2.1 NB.out.2.2).2 r; rw [BB.out] at r2; exact Z3.out r2)⟩, F5.out.2⟩
                 ·by_cases c0 : hd.tn = 0
                  ·have I2 := Lib.hid c0
                   clear c0
                   by_cases c0 : hd.it = (List.replicate 16 0)
                   ·have I1 := Lib.hid c0
                    clear c0
                    go_upto_region 10 with (fail)
                    refine wp_region_lit ?_
                    refine zP (.pointer (some ⟨g, 35, none⟩)) ?_
                    refine zQ (.bool true) (run_load_one _ _ _ 4 _ _ rfl (g) (35) rfl (hcell F4.out.1 ((Hdr.c35 HO.out).trans (by rw [HC.out]))) (by kernel_rfl)) ?_
                    refine zP (.bool false) ?_
                    refine zP (.bool false) ?_
                    refine zP (.pointer (some ⟨g, 53, none⟩)) ?_
                    refine zQ (.slice hd.ta hd.tn hd.tc) (run_load_one _ _ _ 35 _ _ rfl (g) (53) rfl (hcell F4.out.1 (Hdr.c53 HO.out)) (by kernel_rfl)) ?_
                    refine zP (.int .i64 (hd.tn : Int)) ?_
                    refine zQ (.bool true) (run_eqi Try.underlying3 rfl rfl rfl (by have := I2.out; rw [decide_eq_true_eq]; omega)) ?_
                    refine zP (.bool true) ?_
                    refine zP (.pointer (some ⟨g, 37, none⟩)) ?_
                    refine zQ (.agg (u8l hd.it).toArray) (run_load_mid _ _ _ 34 _ rfl g 37 rfl (u8l hd.it) _ (Hdr.rit HO.out F4.out.1) Try.underlying34 rfl (by rw [u8l_len, HO.out.il]; kernel_rfl)) ?_
                    refine zP (.agg (u8l (List.replicate 16 0)).toArray) ?_
                    refine zQ (.bool true) (run_eq16 _ _ _ _ _ hd.it (List.replicate 16 0) true HO.out.il List.length_replicate rfl rfl rfl (by rw [decide_eq_true I1.out])) ?_
                    refine zP (.bool true) ?_
                    refine zP (.bool true) ?_
                    refine zP (.bool true) ?_
                    go_upto_region 11 with (fail)
                    refine region_held_all (fun X => Blk X g 37 hd.L.toArray ∧ Below w.heap.size w X) (by kernel_rfl) (by kernel_rfl) (by exact ⟨F4.out.1.below (Below.drew (Below.refl _ _)), F4.out.2.trans (Below.drew (Below.refl _ _))⟩) ?_
                    refine zH (.bool false) (fun w h => heldRun_value (by kernel_rfl) h) ?_
                    refine zH (.bool false) (fun w h => heldRun_value (by kernel_rfl) h) ?_
                    refine zJ ?_
                    refine zH (.bool false) (fun w h => heldRun_value (by kernel_rfl) h) ?_
                    refine zH (.bool false) (fun w h => heldRun_value (by kernel_rfl) h) ?_
                    refine zJ ?_
                    refine zH (.bool false) (fun w h => heldRun_value (by kernel_rfl) h) ?_
                    refine zH (.bool false) (fun w h => heldRun_value (by kernel_rfl) h) ?_
                    refine zJ ?_
                    refine zJ ?_
                    refine zJ ?_
                    refine zJ ?_
                    refine zJ ?_
                    refine zJ ?_
                    refine zJ ?_
                    refine zJ ?_
                    refine zJ ?_
                    refine zJ ?_
                    refine zH (.bool false) (fun w h => heldRun_value (by kernel_rfl) h) ?_
                    refine zH (.bool false) (fun w h => heldRun_value (by kernel_rfl) h) ?_
                    refine wpHeld_nil ?_
                    intro Y h
                    have F5 := Lib.hid h
                    clear h F4
                    go_wp2_with fail
                    go_ret
                    exact ⟨false, rfl, ⟨fun q => (by cases q), fun q => absurd q (fun q => by have r := q.sz; rw [show hd.sz - 16 = (nb : Int) + 1 by have := NB.out; omega] at r; have r2 := (bk_is NB.out.2.1 NB.out.2.2).2 r; rw [BB.out] at r2; exact Z3.out r2)⟩, F5.out.2⟩
                   ·have I1 := Lib.hid c0
                    clear c0
                    go_upto_region 10 with (fail)
                    refine wp_region_lit ?_
                    refine zP (.pointer (some ⟨g, 35, none⟩)) ?_
                    refine zQ (.bool true) (run_load_one _ _ _ 4 _ _ rfl (g) (35) rfl (hcell F4.out.1 ((Hdr.c35 HO.out).trans (by rw [HC.out]))) (by kernel_rfl)) ?_
                    refine zP (.bool false) ?_
                    refine zP (.bool false) ?_
                    refine zP (.pointer (some ⟨g, 53, none⟩)) ?_
                    refine zQ (.slice hd.ta hd.tn hd.tc) (run_load_one _ _ _ 35 _ _ rfl (g) (53) rfl (hcell F4.out.1 (Hdr.c53 HO.out)) (by kernel_rfl)) ?_
                    refine zP (.int .i64 (hd.tn : Int)) ?_
                    refine zQ (.bool true) (run_eqi Try.underlying3 rfl rfl rfl (by have := I2.out; rw [decide_eq_true_eq]; omega)) ?_
                    refine zP (.bool true) ?_
                    refine zP (.pointer (some ⟨g, 37, none⟩)) ?_
                    refine zQ (.agg (u8l hd.it).toArray) (run_load_mid _ _ _ 34 _ rfl g 37 rfl (u8l hd.it) _ (Hdr.rit HO.out F4.out.1) Try.underlying34 rfl (by rw [u8l_len, HO.out.il]; kernel_rfl)) ?_
                    refine zP (.agg (u8l (List.replicate 16 0)).toArray) ?_
                    refine zQ (.bool false) (run_eq16 _ _ _ _ _ hd.it (List.replicate 16 0) false HO.out.il List.length_replicate rfl rfl rfl (by rw [decide_eq_false I1.out])) ?_
                    refine zP (.bool false) ?_
                    refine zP (.bool false) ?_
                    refine zP (.bool false) ?_
                    go_upto_region 11 with (fail)
                    refine region_held_all (fun X => Blk X g 37 hd.L.toArray ∧ Below w.heap.size w X) (by kernel_rfl) (by kernel_rfl) (by exact ⟨F4.out.1.below (Below.drew (Below.refl _ _)), F4.out.2.trans (Below.drew (Below.refl _ _))⟩) ?_
                    refine zH (.bool false) (fun w h => heldRun_value (by kernel_rfl) h) ?_
                    refine zH (.bool false) (fun w h => heldRun_value (by kernel_rfl) h) ?_
                    refine zJ ?_
                    refine zH (.bool false) (fun w h => heldRun_value (by kernel_rfl) h) ?_
                    refine zH (.bool false) (fun w h => heldRun_value (by kernel_rfl) h) ?_
                    refine zJ ?_
                    refine zH (.bool false) (fun w h => heldRun_value (by kernel_rfl) h) ?_
                    refine zH (.bool false) (fun w h => heldRun_value (by kernel_rfl) h) ?_
                    refine zJ ?_
                    refine zJ ?_
                    refine zJ ?_
                    refine zJ ?_
                    refine zJ ?_
                    refine zJ ?_
                    refine zJ ?_
                    refine zJ ?_
                    refine zJ ?_
                    refine zJ ?_
                    refine zH (.bool false) (fun w h => heldRun_value (by kernel_rfl) h) ?_
                    refine zH (.bool false) (fun w h => heldRun_value (by kernel_rfl) h) ?_
                    refine wpHeld_nil ?_
                    intro Y h
                    have F5 := Lib.hid h
                    clear h F4
                    go_wp2_with fail
                    go_ret
                    exact ⟨false, rfl, ⟨fun q => (by cases q), fun q => absurd q (fun q => by have r := q.sz; rw [show hd.sz - 16 = (nb : Int) + 1 by have := NB.out; omega] at r; have r2 := (bk_is NB.out.2.1 NB.out.2.2).2 r; rw [BB.out] at r2; exact Z3.out r2)⟩, F5.out.2⟩
                  ·have I2 := Lib.hid c0
                   clear c0
                   go_upto_region 10 with (fail)
                   refine wp_region_lit ?_
                   refine zP (.pointer (some ⟨g, 35, none⟩)) ?_
                   refine zQ (.bool true) (run_load_one _ _ _ 4 _ _ rfl (g) (35) rfl (hcell F4.out.1 ((Hdr.c35 HO.out).trans (by rw [HC.out]))) (by kernel_rfl)) ?_
                   refine zP (.bool false) ?_
                   refine zP (.bool false) ?_
                   refine zP (.pointer (some ⟨g, 53, none⟩)) ?_
                   refine zQ (.slice hd.ta hd.tn hd.tc) (run_load_one _ _ _ 35 _ _ rfl (g) (53) rfl (hcell F4.out.1 (Hdr.c53 HO.out)) (by kernel_rfl)) ?_
                   refine zP (.int .i64 (hd.tn : Int)) ?_
                   refine zQ (.bool false) (run_eqi Try.underlying3 rfl rfl rfl (by have := I2.out; rw [decide_eq_false_iff_not]; omega)) ?_
                   refine zP (.bool false) ?_
                   refine zG ?_
                   refine zG ?_
                   refine zG ?_
                   refine zG ?_
                   refine zP (.bool false) ?_
                   refine zP (.bool false) ?_
                   refine zP (.bool false) ?_
                   go_upto_region 11 with (fail)
                   refine region_held_all (fun X => Blk X g 37 hd.L.toArray ∧ Below w.heap.size w X) (by kernel_rfl) (by kernel_rfl) (by exact ⟨F4.out.1.below (Below.drew (Below.refl _ _)), F4.out.2.trans (Below.drew (Below.refl _ _))⟩) ?_
                   refine zH (.bool false) (fun w h => heldRun_value (by kernel_rfl) h) ?_
                   refine zH (.bool false) (fun w h => heldRun_value (by kernel_rfl) h) ?_
                   refine zJ ?_
                   refine zH (.bool false) (fun w h => heldRun_value (by kernel_rfl) h) ?_
                   refine zH (.bool false) (fun w h => heldRun_value (by kernel_rfl) h) ?_
                   refine zJ ?_
                   refine zH (.bool false) (fun w h => heldRun_value (by kernel_rfl) h) ?_
                   refine zH (.bool false) (fun w h => heldRun_value (by kernel_rfl) h) ?_
                   refine zJ ?_
                   refine zJ ?_
                   refine zJ ?_
                   refine zJ ?_
                   refine zJ ?_
                   refine zJ ?_
                   refine zJ ?_
                   refine zJ ?_
                   refine zJ ?_
                   refine zJ ?_
                   refine zH (.bool false) (fun w h => heldRun_value (by kernel_rfl) h) ?_
                   refine zH (.bool false) (fun w h => heldRun_value (by kernel_rfl) h) ?_
                   refine wpHeld_nil ?_
                   intro Y h
                   have F5 := Lib.hid h
                   clear h F4
                   go_wp2_with fail
                   go_ret
                   exact ⟨false, rfl, ⟨fun q => (by cases q), fun q => absurd q (fun q => by have r := q.sz; rw [show hd.sz - 16 = (nb : Int) + 1 by have := NB.out; omega] at r; have r2 := (bk_is NB.out.2.1 NB.out.2.2).2 r; rw [BB.out] at r2; exact Z3.out r2)⟩, F5.out.2⟩
             ·have Z2 := Lib.hid c0
              clear c0
              go_upto_region 8 with (fail)
              refine region_held_all (fun X => Blk X g 37 hd.L.toArray ∧ Below w.heap.size w X) (by kernel_rfl) (by kernel_rfl) (by exact ⟨F3.out.1.below (Below.drew (Below.refl _ _)), F3.out.2.trans (Below.drew (Below.refl _ _))⟩) ?_
              refine zH (.pointer (some ⟨g, 92, none⟩)) (fun w h => heldRun_value (by kernel_rfl) h) ?_
              refine zH (.int .i64 hd.sz) (fun w h => heldRun_value (run_load_one _ _ _ 3 _ _ rfl (g) (92) rfl (hcell h.1 (Hdr.c92 HO.out)) (by kernel_rfl)) h) ?_
              refine zH (.bool true) (fun w h => heldRun_value (run_gei Try.underlying3 rfl rfl rfl (by have := Z1.out; rw [decide_eq_true_eq]; omega)) h) ?_
              refine zH (.bool true) (fun w h => heldRun_value (by kernel_rfl) h) ?_
              refine zH (.pointer (some ⟨g, 92, none⟩)) (fun w h => heldRun_value (by kernel_rfl) h) ?_
              refine zH (.int .i64 hd.sz) (fun w h => heldRun_value (run_load_one _ _ _ 3 _ _ rfl (g) (92) rfl (hcell h.1 (Hdr.c92 HO.out)) (by kernel_rfl)) h) ?_
              refine zH (.bool false) (fun w h => heldRun_value (run_lei Try.underlying3 rfl rfl rfl (by have := Z2.out; rw [decide_eq_false_iff_not]; omega)) h) ?_
              refine zH (.bool false) (fun w h => heldRun_value (by kernel_rfl) h) ?_
              refine zH (.bool false) (fun w h => heldRun_value (by kernel_rfl) h) ?_
              refine zJ ?_
              refine zJ ?_
              refine zJ ?_
              refine zJ ?_
              refine zJ ?_
              refine zJ ?_
              refine zJ ?_
              refine zJ ?_
              refine zH (.bool false) (fun w h => heldRun_value (by kernel_rfl) h) ?_
              refine zH (.bool false) (fun w h => heldRun_value (by kernel_rfl) h) ?_
              refine wpHeld_nil ?_
              intro X h
              have F4 := Lib.hid h
              clear h F3
              by_cases c0 : 1 < hd.sq
              ·have Q1 := Lib.hid c0
               clear c0
               go_upto_region 9 with (fail)
               refine wp_region_lit ?_
               refine zP (.pointer (some ⟨g, 1, none⟩)) ?_
               refine zQ (.int .u64 hd.sq) (run_load_one _ _ _ 22 _ _ rfl (g) (1) rfl (hcell F4.out.1 (Hdr.c1)) (by kernel_rfl)) ?_
               refine zQ (.bool true) (run_gti Try.underlying22 rfl rfl rfl (by have := Q1.out; rw [decide_eq_true_eq]; omega)) ?_
               refine zP (.bool true) ?_
               refine zG ?_
               refine zG ?_
               refine zG ?_
               refine zG ?_
               refine zP (.bool true) ?_
               refine zP (.bool true) ?_
               obtain ⟨cz, hcz⟩ : ∃ z, hd.ct = z := ⟨_, rfl⟩
               have HC := Lib.hid hcz
               clear hcz
               cases cz
               ·go_upto_region 10 with (fail)
                refine wp_region_lit ?_
                refine zP (.pointer (some ⟨g, 35, none⟩)) ?_
                refine zQ (.bool false) (run_load_one _ _ _ 4 _ _ rfl (g) (35) rfl (hcell F4.out.1 ((Hdr.c35 HO.out).trans (by rw [HC.out]))) (by kernel_rfl)) ?_
                refine zP (.bool true) ?_
                refine zP (.bool true) ?_
                refine zG ?_
                refine zG ?_
                refine zG ?_
                refine zG ?_
                refine zG ?_
                refine zG ?_
                refine zG ?_
                refine zG ?_
                refine zG ?_
                refine zG ?_
                refine zP (.bool true) ?_
                refine zP (.bool true) ?_
                go_upto_region 11 with (fail)
                refine region_held_all (fun X => Blk X g 37 hd.L.toArray ∧ Below w.heap.size w X) (by kernel_rfl) (by kernel_rfl) (by exact ⟨F4.out.1.below (Below.drew (Below.refl _ _)), F4.out.2.trans (Below.drew (Below.refl _ _))⟩) ?_
                refine zH (.bool false) (fun w h => heldRun_value (by kernel_rfl) h) ?_
                refine zH (.bool false) (fun w h => heldRun_value (by kernel_rfl) h) ?_
                refine zJ ?_
                refine zH (.bool false) (fun w h => heldRun_value (by kernel_rfl) h) ?_
                refine zH (.bool false) (fun w h => heldRun_value (by kernel_rfl) h) ?_
                refine zJ ?_
                refine zH (.bool false) (fun w h => heldRun_value (by kernel_rfl) h) ?_
                refine zH (.bool false) (fun w h => heldRun_value (by kernel_rfl) h) ?_
                refine zJ ?_
                refine zJ ?_
                refine zJ ?_
                refine zJ ?_
                refine zJ ?_
                refine zJ ?_
                refine zJ ?_
                refine zJ ?_
                refine zJ ?_
                refine zJ ?_
                refine zH (.bool false) (fun w h => heldRun_value (by kernel_rfl) h) ?_
                refine zH (.bool false) (fun w h => heldRun_value (by kernel_rfl) h) ?_
                refine wpHeld_nil ?_
                intro Y h
                have F5 := Lib.hid h
                clear h F4
                go_wp2_with fail
                go_ret
                exact ⟨false, rfl, ⟨fun q => (by cases q), fun q => absurd q (fun q => by have := Z2.out; have := q.sz; unfold bkt at this; omega)⟩, F5.out.2⟩
               ·by_cases c0 : hd.tn = 0
                ·have I2 := Lib.hid c0
                 clear c0
                 by_cases c0 : hd.it = (List.replicate 16 0)
                 ·have I1 := Lib.hid c0
                  clear c0
                  go_upto_region 10 with (fail)
                  refine wp_region_lit ?_
                  refine zP (.pointer (some ⟨g, 35, none⟩)) ?_
                  refine zQ (.bool true) (run_load_one _ _ _ 4 _ _ rfl (g) (35) rfl (hcell F4.out.1 ((Hdr.c35 HO.out).trans (by rw [HC.out]))) (by kernel_rfl)) ?_
                  refine zP (.bool false) ?_
                  refine zP (.bool false) ?_
                  refine zP (.pointer (some ⟨g, 53, none⟩)) ?_
                  refine zQ (.slice hd.ta hd.tn hd.tc) (run_load_one _ _ _ 35 _ _ rfl (g) (53) rfl (hcell F4.out.1 (Hdr.c53 HO.out)) (by kernel_rfl)) ?_
                  refine zP (.int .i64 (hd.tn : Int)) ?_
                  refine zQ (.bool true) (run_eqi Try.underlying3 rfl rfl rfl (by have := I2.out; rw [decide_eq_true_eq]; omega)) ?_
                  refine zP (.bool true) ?_
                  refine zP (.pointer (some ⟨g, 37, none⟩)) ?_
                  refine zQ (.agg (u8l hd.it).toArray) (run_load_mid _ _ _ 34 _ rfl g 37 rfl (u8l hd.it) _ (Hdr.rit HO.out F4.out.1) Try.underlying34 rfl (by rw [u8l_len, HO.out.il]; kernel_rfl)) ?_
                  refine zP (.agg (u8l (List.replicate 16 0)).toArray) ?_
                  refine zQ (.bool true) (run_eq16 _ _ _ _ _ hd.it (List.replicate 16 0) true HO.out.il List.length_replicate rfl rfl rfl (by rw [decide_eq_true I1.out])) ?_
                  refine zP (.bool true) ?_
                  refine zP (.bool true) ?_
                  refine zP (.bool true) ?_
                  go_upto_region 11 with (fail)
                  refine region_held_all (fun X => Blk X g 37 hd.L.toArray ∧ Below w.heap.size w X) (by kernel_rfl) (by kernel_rfl) (by exact ⟨F4.out.1.below (Below.drew (Below.refl _ _)), F4.out.2.trans (Below.drew (Below.refl _ _))⟩) ?_
                  refine zH (.bool false) (fun w h => heldRun_value (by kernel_rfl) h) ?_
                  refine zH (.bool false) (fun w h => heldRun_value (by kernel_rfl) h) ?_
                  refine zJ ?_
                  refine zH (.bool false) (fun w h => heldRun_value (by kernel_rfl) h) ?_
                  refine zH (.bool false) (fun w h => heldRun_value (by kernel_rfl) h) ?_
                  refine zJ ?_
                  refine zH (.bool false) (fun w h => heldRun_value (by kernel_rfl) h) ?_
                  refine zH (.bool false) (fun w h => heldRun_value (by kernel_rfl) h) ?_
                  refine zJ ?_
                  refine zJ ?_
                  refine zJ ?_
                  refine zJ ?_
                  refine zJ ?_
                  refine zJ ?_
                  refine zJ ?_
                  refine zJ ?_
                  refine zJ ?_
                  refine zJ ?_
                  refine zH (.bool false) (fun w h => heldRun_value (by kernel_rfl) h) ?_
                  refine zH (.bool false) (fun w h => heldRun_value (by kernel_rfl) h) ?_
                  refine wpHeld_nil ?_
                  intro Y h
                  have F5 := Lib.hid h
                  clear h F4
                  go_wp2_with fail
                  go_ret
                  exact ⟨false, rfl, ⟨fun q => (by cases q), fun q => absurd q (fun q => by have := Z2.out; have := q.sz; unfold bkt at this; omega)⟩, F5.out.2⟩
                 ·have I1 := Lib.hid c0
                  clear c0
                  go_upto_region 10 with (fail)
                  refine wp_region_lit ?_
                  refine zP (.pointer (some ⟨g, 35, none⟩)) ?_
                  refine zQ (.bool true) (run_load_one _ _ _ 4 _ _ rfl (g) (35) rfl (hcell F4.out.1 ((Hdr.c35 HO.out).trans (by rw [HC.out]))) (by kernel_rfl)) ?_
                  refine zP (.bool false) ?_
                  refine zP (.bool false) ?_
                  refine zP (.pointer (some ⟨g, 53, none⟩)) ?_
                  refine zQ (.slice hd.ta hd.tn hd.tc) (run_load_one _ _ _ 35 _ _ rfl (g) (53) rfl (hcell F4.out.1 (Hdr.c53 HO.out)) (by kernel_rfl)) ?_
                  refine zP (.int .i64 (hd.tn : Int)) ?_
                  refine zQ (.bool true) (run_eqi Try.underlying3 rfl rfl rfl (by have := I2.out; rw [decide_eq_true_eq]; omega)) ?_
                  refine zP (.bool true) ?_
                  refine zP (.pointer (some ⟨g, 37, none⟩)) ?_
                  refine zQ (.agg (u8l hd.it).toArray) (run_load_mid _ _ _ 34 _ rfl g 37 rfl (u8l hd.it) _ (Hdr.rit HO.out F4.out.1) Try.underlying34 rfl (by rw [u8l_len, HO.out.il]; kernel_rfl)) ?_
                  refine zP (.agg (u8l (List.replicate 16 0)).toArray) ?_
                  refine zQ (.bool false) (run_eq16 _ _ _ _ _ hd.it (List.replicate 16 0) false HO.out.il List.length_replicate rfl rfl rfl (by rw [decide_eq_false I1.out])) ?_
                  refine zP (.bool false) ?_
                  refine zP (.bool false) ?_
                  refine zP (.bool false) ?_
                  go_upto_region 11 with (fail)
                  refine region_held_all (fun X => Blk X g 37 hd.L.toArray ∧ Below w.heap.size w X) (by kernel_rfl) (by kernel_rfl) (by exact ⟨F4.out.1.below (Below.drew (Below.refl _ _)), F4.out.2.trans (Below.drew (Below.refl _ _))⟩) ?_
                  refine zH (.bool false) (fun w h => heldRun_value (by kernel_rfl) h) ?_
                  refine zH (.bool false) (fun w h => heldRun_value (by kernel_rfl) h) ?_
                  refine zJ ?_
                  refine zH (.bool false) (fun w h => heldRun_value (by kernel_rfl) h) ?_
                  refine zH (.bool false) (fun w h => heldRun_value (by kernel_rfl) h) ?_
                  refine zJ ?_
                  refine zH (.bool false) (fun w h => heldRun_value (by kernel_rfl) h) ?_
                  refine zH (.bool false) (fun w h => heldRun_value (by kernel_rfl) h) ?_
                  refine zJ ?_
                  refine zJ ?_
                  refine zJ ?_
                  refine zJ ?_
                  refine zJ ?_
                  refine zJ ?_
                  refine zJ ?_
                  refine zJ ?_
                  refine zJ ?_
                  refine zJ ?_
                  refine zH (.bool false) (fun w h => heldRun_value (by kernel_rfl) h) ?_
                  refine zH (.bool false) (fun w h => heldRun_value (by kernel_rfl) h) ?_
                  refine wpHeld_nil ?_
                  intro Y h
                  have F5 := Lib.hid h
                  clear h F4
                  go_wp2_with fail
                  go_ret
                  exact ⟨false, rfl, ⟨fun q => (by cases q), fun q => absurd q (fun q => by have := Z2.out; have := q.sz; unfold bkt at this; omega)⟩, F5.out.2⟩
                ·have I2 := Lib.hid c0
                 clear c0
                 go_upto_region 10 with (fail)
                 refine wp_region_lit ?_
                 refine zP (.pointer (some ⟨g, 35, none⟩)) ?_
                 refine zQ (.bool true) (run_load_one _ _ _ 4 _ _ rfl (g) (35) rfl (hcell F4.out.1 ((Hdr.c35 HO.out).trans (by rw [HC.out]))) (by kernel_rfl)) ?_
                 refine zP (.bool false) ?_
                 refine zP (.bool false) ?_
                 refine zP (.pointer (some ⟨g, 53, none⟩)) ?_
                 refine zQ (.slice hd.ta hd.tn hd.tc) (run_load_one _ _ _ 35 _ _ rfl (g) (53) rfl (hcell F4.out.1 (Hdr.c53 HO.out)) (by kernel_rfl)) ?_
                 refine zP (.int .i64 (hd.tn : Int)) ?_
                 refine zQ (.bool false) (run_eqi Try.underlying3 rfl rfl rfl (by have := I2.out; rw [decide_eq_false_iff_not]; omega)) ?_
                 refine zP (.bool false) ?_
                 refine zG ?_
                 refine zG ?_
                 refine zG ?_
                 refine zG ?_
                 refine zP (.bool false) ?_
                 refine zP (.bool false) ?_
                 refine zP (.bool false) ?_
                 go_upto_region 11 with (fail)
                 refine region_held_all (fun X => Blk X g 37 hd.L.toArray ∧ Below w.heap.size w X) (by kernel_rfl) (by kernel_rfl) (by exact ⟨F4.out.1.below (Below.drew (Below.refl _ _)), F4.out.2.trans (Below.drew (Below.refl _ _))⟩) ?_
                 refine zH (.bool false) (fun w h => heldRun_value (by kernel_rfl) h) ?_
                 refine zH (.bool false) (fun w h => heldRun_value (by kernel_rfl) h) ?_
                 refine zJ ?_
                 refine zH (.bool false) (fun w h => heldRun_value (by kernel_rfl) h) ?_
                 refine zH (.bool false) (fun w h => heldRun_value (by kernel_rfl) h) ?_
                 refine zJ ?_
                 refine zH (.bool false) (fun w h => heldRun_value (by kernel_rfl) h) ?_
                 refine zH (.bool false) (fun w h => heldRun_value (by kernel_rfl) h) ?_
                 refine zJ ?_
                 refine zJ ?_
                 refine zJ ?_
                 refine zJ ?_
                 refine zJ ?_
                 refine zJ ?_
                 refine zJ ?_
                 refine zJ ?_
                 refine zJ ?_
                 refine zJ ?_
                 refine zH (.bool false) (fun w h => heldRun_value (by kernel_rfl) h) ?_
                 refine zH (.bool false) (fun w h => heldRun_value (by kernel_rfl) h) ?_
                 refine wpHeld_nil ?_
                 intro Y h
                 have F5 := Lib.hid h
                 clear h F4
                 go_wp2_with fail
                 go_ret
                 exact ⟨false, rfl, ⟨fun q => (by cases q), fun q => absurd q (fun q => by have := Z2.out; have := q.sz; unfold bkt at this; omega)⟩, F5.out.2⟩
              ·have Q1 := Lib.hid c0
               clear c0
               by_cases c0 : hd.pv = (List.replicate 32 0)
               ·have Q2 := Lib.hid c0
                clear c0
                go_upto_region 9 with (fail)
                refine wp_region_lit ?_
                refine zP (.pointer (some ⟨g, 1, none⟩)) ?_
                refine zQ (.int .u64 hd.sq) (run_load_one _ _ _ 22 _ _ rfl (g) (1) rfl (hcell F4.out.1 (Hdr.c1)) (by kernel_rfl)) ?_
                refine zQ (.bool false) (run_gti Try.underlying22 rfl rfl rfl (by have := Q1.out; rw [decide_eq_false_iff_not]; omega)) ?_
                refine zP (.bool false) ?_
                refine zP (.pointer (some ⟨g, 2, none⟩)) ?_
                refine zQ (.agg (u8l hd.pv).toArray) (run_load_mid _ _ _ 32 _ rfl g 2 rfl (u8l hd.pv) _ (Hdr.rpv HO.out F4.out.1) Try.underlying32 rfl (by rw [u8l_len, HO.out.pl]; kernel_rfl)) ?_
                refine zP (.agg (u8l (List.replicate 32 0)).toArray) ?_
                refine zQ (.bool true) (run_eq32 _ _ _ _ _ hd.pv (List.replicate 32 0) true HO.out.pl List.length_replicate rfl rfl rfl (by rw [decide_eq_true Q2.out])) ?_
                refine zP (.bool true) ?_
                refine zP (.bool true) ?_
                obtain ⟨cz, hcz⟩ : ∃ z, hd.ct = z := ⟨_, rfl⟩
                have HC := Lib.hid hcz
                clear hcz
                cases cz
                ·go_upto_region 10 with (fail)
                 refine wp_region_lit ?_
                 refine zP (.pointer (some ⟨g, 35, none⟩)) ?_
                 refine zQ (.bool false) (run_load_one _ _ _ 4 _ _ rfl (g) (35) rfl (hcell F4.out.1 ((Hdr.c35 HO.out).trans (by rw [HC.out]))) (by kernel_rfl)) ?_
                 refine zP (.bool true) ?_
                 refine zP (.bool true) ?_
                 refine zG ?_
                 refine zG ?_
                 refine zG ?_
                 refine zG ?_
                 refine zG ?_
                 refine zG ?_
                 refine zG ?_
                 refine zG ?_
                 refine zG ?_
                 refine zG ?_
                 refine zP (.bool true) ?_
                 refine zP (.bool true) ?_
                 go_upto_region 11 with (fail)
                 refine region_held_all (fun X => Blk X g 37 hd.L.toArray ∧ Below w.heap.size w X) (by kernel_rfl) (by kernel_rfl) (by exact ⟨F4.out.1.below (Below.drew (Below.refl _ _)), F4.out.2.trans (Below.drew (Below.refl _ _))⟩) ?_
                 refine zH (.bool false) (fun w h => heldRun_value (by kernel_rfl) h) ?_
                 refine zH (.bool false) (fun w h => heldRun_value (by kernel_rfl) h) ?_
                 refine zJ ?_
                 refine zH (.bool false) (fun w h => heldRun_value (by kernel_rfl) h) ?_
                 refine zH (.bool false) (fun w h => heldRun_value (by kernel_rfl) h) ?_
                 refine zJ ?_
                 refine zH (.bool false) (fun w h => heldRun_value (by kernel_rfl) h) ?_
                 refine zH (.bool false) (fun w h => heldRun_value (by kernel_rfl) h) ?_
                 refine zJ ?_
                 refine zJ ?_
                 refine zJ ?_
                 refine zJ ?_
                 refine zJ ?_
                 refine zJ ?_
                 refine zJ ?_
                 refine zJ ?_
                 refine zJ ?_
                 refine zJ ?_
                 refine zH (.bool false) (fun w h => heldRun_value (by kernel_rfl) h) ?_
                 refine zH (.bool false) (fun w h => heldRun_value (by kernel_rfl) h) ?_
                 refine wpHeld_nil ?_
                 intro Y h
                 have F5 := Lib.hid h
                 clear h F4
                 go_wp2_with fail
                 go_ret
                 exact ⟨false, rfl, ⟨fun q => (by cases q), fun q => absurd q (fun q => by have := Z2.out; have := q.sz; unfold bkt at this; omega)⟩, F5.out.2⟩
                ·by_cases c0 : hd.tn = 0
                 ·have I2 := Lib.hid c0
                  clear c0
                  by_cases c0 : hd.it = (List.replicate 16 0)
                  ·have I1 := Lib.hid c0
                   clear c0
                   go_upto_region 10 with (fail)
                   refine wp_region_lit ?_
                   refine zP (.pointer (some ⟨g, 35, none⟩)) ?_
                   refine zQ (.bool true) (run_load_one _ _ _ 4 _ _ rfl (g) (35) rfl (hcell F4.out.1 ((Hdr.c35 HO.out).trans (by rw [HC.out]))) (by kernel_rfl)) ?_
                   refine zP (.bool false) ?_
                   refine zP (.bool false) ?_
                   refine zP (.pointer (some ⟨g, 53, none⟩)) ?_
                   refine zQ (.slice hd.ta hd.tn hd.tc) (run_load_one _ _ _ 35 _ _ rfl (g) (53) rfl (hcell F4.out.1 (Hdr.c53 HO.out)) (by kernel_rfl)) ?_
                   refine zP (.int .i64 (hd.tn : Int)) ?_
                   refine zQ (.bool true) (run_eqi Try.underlying3 rfl rfl rfl (by have := I2.out; rw [decide_eq_true_eq]; omega)) ?_
                   refine zP (.bool true) ?_
                   refine zP (.pointer (some ⟨g, 37, none⟩)) ?_
                   refine zQ (.agg (u8l hd.it).toArray) (run_load_mid _ _ _ 34 _ rfl g 37 rfl (u8l hd.it) _ (Hdr.rit HO.out F4.out.1) Try.underlying34 rfl (by rw [u8l_len, HO.out.il]; kernel_rfl)) ?_
                   refine zP (.agg (u8l (List.replicate 16 0)).toArray) ?_
                   refine zQ (.bool true) (run_eq16 _ _ _ _ _ hd.it (List.replicate 16 0) true HO.out.il List.length_replicate rfl rfl rfl (by rw [decide_eq_true I1.out])) ?_
                   refine zP (.bool true) ?_
                   refine zP (.bool true) ?_
                   refine zP (.bool true) ?_
                   go_upto_region 11 with (fail)
                   refine region_held_all (fun X => Blk X g 37 hd.L.toArray ∧ Below w.heap.size w X) (by kernel_rfl) (by kernel_rfl) (by exact ⟨F4.out.1.below (Below.drew (Below.refl _ _)), F4.out.2.trans (Below.drew (Below.refl _ _))⟩) ?_
                   refine zH (.bool false) (fun w h => heldRun_value (by kernel_rfl) h) ?_
                   refine zH (.bool false) (fun w h => heldRun_value (by kernel_rfl) h) ?_
                   refine zJ ?_
                   refine zH (.bool false) (fun w h => heldRun_value (by kernel_rfl) h) ?_
                   refine zH (.bool false) (fun w h => heldRun_value (by kernel_rfl) h) ?_
                   refine zJ ?_
                   refine zH (.bool false) (fun w h => heldRun_value (by kernel_rfl) h) ?_
                   refine zH (.bool false) (fun w h => heldRun_value (by kernel_rfl) h) ?_
                   refine zJ ?_
                   refine zJ ?_
                   refine zJ ?_
                   refine zJ ?_
                   refine zJ ?_
                   refine zJ ?_
                   refine zJ ?_
                   refine zJ ?_
                   refine zJ ?_
                   refine zJ ?_
                   refine zH (.bool false) (fun w h => heldRun_value (by kernel_rfl) h) ?_
                   refine zH (.bool false) (fun w h => heldRun_value (by kernel_rfl) h) ?_
                   refine wpHeld_nil ?_
                   intro Y h
                   have F5 := Lib.hid h
                   clear h F4
                   go_wp2_with fail
                   go_ret
                   exact ⟨false, rfl, ⟨fun q => (by cases q), fun q => absurd q (fun q => by have := Z2.out; have := q.sz; unfold bkt at this; omega)⟩, F5.out.2⟩
                  ·have I1 := Lib.hid c0
                   clear c0
                   go_upto_region 10 with (fail)
                   refine wp_region_lit ?_
                   refine zP (.pointer (some ⟨g, 35, none⟩)) ?_
                   refine zQ (.bool true) (run_load_one _ _ _ 4 _ _ rfl (g) (35) rfl (hcell F4.out.1 ((Hdr.c35 HO.out).trans (by rw [HC.out]))) (by kernel_rfl)) ?_
                   refine zP (.bool false) ?_
                   refine zP (.bool false) ?_
                   refine zP (.pointer (some ⟨g, 53, none⟩)) ?_
                   refine zQ (.slice hd.ta hd.tn hd.tc) (run_load_one _ _ _ 35 _ _ rfl (g) (53) rfl (hcell F4.out.1 (Hdr.c53 HO.out)) (by kernel_rfl)) ?_
                   refine zP (.int .i64 (hd.tn : Int)) ?_
                   refine zQ (.bool true) (run_eqi Try.underlying3 rfl rfl rfl (by have := I2.out; rw [decide_eq_true_eq]; omega)) ?_
                   refine zP (.bool true) ?_
                   refine zP (.pointer (some ⟨g, 37, none⟩)) ?_
                   refine zQ (.agg (u8l hd.it).toArray) (run_load_mid _ _ _ 34 _ rfl g 37 rfl (u8l hd.it) _ (Hdr.rit HO.out F4.out.1) Try.underlying34 rfl (by rw [u8l_len, HO.out.il]; kernel_rfl)) ?_
                   refine zP (.agg (u8l (List.replicate 16 0)).toArray) ?_
                   refine zQ (.bool false) (run_eq16 _ _ _ _ _ hd.it (List.replicate 16 0) false HO.out.il List.length_replicate rfl rfl rfl (by rw [decide_eq_false I1.out])) ?_
                   refine zP (.bool false) ?_
                   refine zP (.bool false) ?_
                   refine zP (.bool false) ?_
                   go_upto_region 11 with (fail)
                   refine region_held_all (fun X => Blk X g 37 hd.L.toArray ∧ Below w.heap.size w X) (by kernel_rfl) (by kernel_rfl) (by exact ⟨F4.out.1.below (Below.drew (Below.refl _ _)), F4.out.2.trans (Below.drew (Below.refl _ _))⟩) ?_
                   refine zH (.bool false) (fun w h => heldRun_value (by kernel_rfl) h) ?_
                   refine zH (.bool false) (fun w h => heldRun_value (by kernel_rfl) h) ?_
                   refine zJ ?_
                   refine zH (.bool false) (fun w h => heldRun_value (by kernel_rfl) h) ?_
                   refine zH (.bool false) (fun w h => heldRun_value (by kernel_rfl) h) ?_
                   refine zJ ?_
                   refine zH (.bool false) (fun w h => heldRun_value (by kernel_rfl) h) ?_
                   refine zH (.bool false) (fun w h => heldRun_value (by kernel_rfl) h) ?_
                   refine zJ ?_
                   refine zJ ?_
                   refine zJ ?_
                   refine zJ ?_
                   refine zJ ?_
                   refine zJ ?_
                   refine zJ ?_
                   refine zJ ?_
                   refine zJ ?_
                   refine zJ ?_
                   refine zH (.bool false) (fun w h => heldRun_value (by kernel_rfl) h) ?_
                   refine zH (.bool false) (fun w h => heldRun_value (by kernel_rfl) h) ?_
                   refine wpHeld_nil ?_
                   intro Y h
                   have F5 := Lib.hid h
                   clear h F4
                   go_wp2_with fail
                   go_ret
                   exact ⟨false, rfl, ⟨fun q => (by cases q), fun q => absurd q (fun q => by have := Z2.out; have := q.sz; unfold bkt at this; omega)⟩, F5.out.2⟩
                 ·have I2 := Lib.hid c0
                  clear c0
                  go_upto_region 10 with (fail)
                  refine wp_region_lit ?_
                  refine zP (.pointer (some ⟨g, 35, none⟩)) ?_
                  refine zQ (.bool true) (run_load_one _ _ _ 4 _ _ rfl (g) (35) rfl (hcell F4.out.1 ((Hdr.c35 HO.out).trans (by rw [HC.out]))) (by kernel_rfl)) ?_
                  refine zP (.bool false) ?_
                  refine zP (.bool false) ?_
                  refine zP (.pointer (some ⟨g, 53, none⟩)) ?_
                  refine zQ (.slice hd.ta hd.tn hd.tc) (run_load_one _ _ _ 35 _ _ rfl (g) (53) rfl (hcell F4.out.1 (Hdr.c53 HO.out)) (by kernel_rfl)) ?_
                  refine zP (.int .i64 (hd.tn : Int)) ?_
                  refine zQ (.bool false) (run_eqi Try.underlying3 rfl rfl rfl (by have := I2.out; rw [decide_eq_false_iff_not]; omega)) ?_
                  refine zP (.bool false) ?_
                  refine zG ?_
                  refine zG ?_
                  refine zG ?_
                  refine zG ?_
                  refine zP (.bool false) ?_
                  refine zP (.bool false) ?_
                  refine zP (.bool false) ?_
                  go_upto_region 11 with (fail)
                  refine region_held_all (fun X => Blk X g 37 hd.L.toArray ∧ Below w.heap.size w X) (by kernel_rfl) (by kernel_rfl) (by exact ⟨F4.out.1.below (Below.drew (Below.refl _ _)), F4.out.2.trans (Below.drew (Below.refl _ _))⟩) ?_
                  refine zH (.bool false) (fun w h => heldRun_value (by kernel_rfl) h) ?_
                  refine zH (.bool false) (fun w h => heldRun_value (by kernel_rfl) h) ?_
                  refine zJ ?_
                  refine zH (.bool false) (fun w h => heldRun_value (by kernel_rfl) h) ?_
                  refine zH (.bool false) (fun w h => heldRun_value (by kernel_rfl) h) ?_
                  refine zJ ?_
                  refine zH (.bool false) (fun w h => heldRun_value (by kernel_rfl) h) ?_
                  refine zH (.bool false) (fun w h => heldRun_value (by kernel_rfl) h) ?_
                  refine zJ ?_
                  refine zJ ?_
                  refine zJ ?_
                  refine zJ ?_
                  refine zJ ?_
                  refine zJ ?_
                  refine zJ ?_
                  refine zJ ?_
                  refine zJ ?_
                  refine zJ ?_
                  refine zH (.bool false) (fun w h => heldRun_value (by kernel_rfl) h) ?_
                  refine zH (.bool false) (fun w h => heldRun_value (by kernel_rfl) h) ?_
                  refine wpHeld_nil ?_
                  intro Y h
                  have F5 := Lib.hid h
                  clear h F4
                  go_wp2_with fail
                  go_ret
                  exact ⟨false, rfl, ⟨fun q => (by cases q), fun q => absurd q (fun q => by have := Z2.out; have := q.sz; unfold bkt at this; omega)⟩, F5.out.2⟩
               ·have Q2 := Lib.hid c0
                clear c0
                go_upto_region 9 with (fail)
                refine wp_region_lit ?_
                refine zP (.pointer (some ⟨g, 1, none⟩)) ?_
                refine zQ (.int .u64 hd.sq) (run_load_one _ _ _ 22 _ _ rfl (g) (1) rfl (hcell F4.out.1 (Hdr.c1)) (by kernel_rfl)) ?_
                refine zQ (.bool false) (run_gti Try.underlying22 rfl rfl rfl (by have := Q1.out; rw [decide_eq_false_iff_not]; omega)) ?_
                refine zP (.bool false) ?_
                refine zP (.pointer (some ⟨g, 2, none⟩)) ?_
                refine zQ (.agg (u8l hd.pv).toArray) (run_load_mid _ _ _ 32 _ rfl g 2 rfl (u8l hd.pv) _ (Hdr.rpv HO.out F4.out.1) Try.underlying32 rfl (by rw [u8l_len, HO.out.pl]; kernel_rfl)) ?_
                refine zP (.agg (u8l (List.replicate 32 0)).toArray) ?_
                refine zQ (.bool false) (run_eq32 _ _ _ _ _ hd.pv (List.replicate 32 0) false HO.out.pl List.length_replicate rfl rfl rfl (by rw [decide_eq_false Q2.out])) ?_
                refine zP (.bool false) ?_
                refine zP (.bool false) ?_
                obtain ⟨cz, hcz⟩ : ∃ z, hd.ct = z := ⟨_, rfl⟩
                have HC := Lib.hid hcz
                clear hcz
                cases cz
                ·go_upto_region 10 with (fail)
                 refine wp_region_lit ?_
                 refine zP (.pointer (some ⟨g, 35, none⟩)) ?_
                 refine zQ (.bool false) (run_load_one _ _ _ 4 _ _ rfl (g) (35) rfl (hcell F4.out.1 ((Hdr.c35 HO.out).trans (by rw [HC.out]))) (by kernel_rfl)) ?_
                 refine zP (.bool true) ?_
                 refine zP (.bool true) ?_
                 refine zG ?_
                 refine zG ?_
                 refine zG ?_
                 refine zG ?_
                 refine zG ?_
                 refine zG ?_
                 refine zG ?_
                 refine zG ?_
                 refine zG ?_
                 refine zG ?_
                 refine zP (.bool true) ?_
                 refine zP (.bool true) ?_
                 go_upto_region 11 with (fail)
                 refine region_held_all (fun X => Blk X g 37 hd.L.toArray ∧ Below w.heap.size w X) (by kernel_rfl) (by kernel_rfl) (by exact ⟨F4.out.1.below (Below.drew (Below.refl _ _)), F4.out.2.trans (Below.drew (Below.refl _ _))⟩) ?_
                 refine zH (.bool false) (fun w h => heldRun_value (by kernel_rfl) h) ?_
                 refine zH (.bool false) (fun w h => heldRun_value (by kernel_rfl) h) ?_
                 refine zJ ?_
                 refine zH (.bool false) (fun w h => heldRun_value (by kernel_rfl) h) ?_
                 refine zH (.bool false) (fun w h => heldRun_value (by kernel_rfl) h) ?_
                 refine zJ ?_
                 refine zH (.bool false) (fun w h => heldRun_value (by kernel_rfl) h) ?_
                 refine zH (.bool false) (fun w h => heldRun_value (by kernel_rfl) h) ?_
                 refine zJ ?_
                 refine zJ ?_
                 refine zJ ?_
                 refine zJ ?_
                 refine zJ ?_
                 refine zJ ?_
                 refine zJ ?_
                 refine zJ ?_
                 refine zJ ?_
                 refine zJ ?_
                 refine zH (.bool false) (fun w h => heldRun_value (by kernel_rfl) h) ?_
                 refine zH (.bool false) (fun w h => heldRun_value (by kernel_rfl) h) ?_
                 refine wpHeld_nil ?_
                 intro Y h
                 have F5 := Lib.hid h
                 clear h F4
                 go_wp2_with fail
                 go_ret
                 exact ⟨false, rfl, ⟨fun q => (by cases q), fun q => absurd q (fun q => by have := Z2.out; have := q.sz; unfold bkt at this; omega)⟩, F5.out.2⟩
                ·by_cases c0 : hd.tn = 0
                 ·have I2 := Lib.hid c0
                  clear c0
                  by_cases c0 : hd.it = (List.replicate 16 0)
                  ·have I1 := Lib.hid c0
                   clear c0
                   go_upto_region 10 with (fail)
                   refine wp_region_lit ?_
                   refine zP (.pointer (some ⟨g, 35, none⟩)) ?_
                   refine zQ (.bool true) (run_load_one _ _ _ 4 _ _ rfl (g) (35) rfl (hcell F4.out.1 ((Hdr.c35 HO.out).trans (by rw [HC.out]))) (by kernel_rfl)) ?_
                   refine zP (.bool false) ?_
                   refine zP (.bool false) ?_
                   refine zP (.pointer (some ⟨g, 53, none⟩)) ?_
                   refine zQ (.slice hd.ta hd.tn hd.tc) (run_load_one _ _ _ 35 _ _ rfl (g) (53) rfl (hcell F4.out.1 (Hdr.c53 HO.out)) (by kernel_rfl)) ?_
                   refine zP (.int .i64 (hd.tn : Int)) ?_
                   refine zQ (.bool true) (run_eqi Try.underlying3 rfl rfl rfl (by have := I2.out; rw [decide_eq_true_eq]; omega)) ?_
                   refine zP (.bool true) ?_
                   refine zP (.pointer (some ⟨g, 37, none⟩)) ?_
                   refine zQ (.agg (u8l hd.it).toArray) (run_load_mid _ _ _ 34 _ rfl g 37 rfl (u8l hd.it) _ (Hdr.rit HO.out F4.out.1) Try.underlying34 rfl (by rw [u8l_len, HO.out.il]; kernel_rfl)) ?_
                   refine zP (.agg (u8l (List.replicate 16 0)).toArray) ?_
                   refine zQ (.bool true) (run_eq16 _ _ _ _ _ hd.it (List.replicate 16 0) true HO.out.il List.length_replicate rfl rfl rfl (by rw [decide_eq_true I1.out])) ?_
                   refine zP (.bool true) ?_
                   refine zP (.bool true) ?_
                   refine zP (.bool true) ?_
                   go_upto_region 11 with (fail)
                   refine region_held_all (fun X => Blk X g 37 hd.L.toArray ∧ Below w.heap.size w X) (by kernel_rfl) (by kernel_rfl) (by exact ⟨F4.out.1.below (Below.drew (Below.refl _ _)), F4.out.2.trans (Below.drew (Below.refl _ _))⟩) ?_
                   refine zH (.bool false) (fun w h => heldRun_value (by kernel_rfl) h) ?_
                   refine zH (.bool false) (fun w h => heldRun_value (by kernel_rfl) h) ?_
                   refine zJ ?_
                   refine zH (.bool false) (fun w h => heldRun_value (by kernel_rfl) h) ?_
                   refine zH (.bool false) (fun w h => heldRun_value (by kernel_rfl) h) ?_
                   refine zJ ?_
                   refine zH (.bool false) (fun w h => heldRun_value (by kernel_rfl) h) ?_
                   refine zH (.bool false) (fun w h => heldRun_value (by kernel_rfl) h) ?_
                   refine zJ ?_
                   refine zJ ?_
                   refine zJ ?_
                   refine zJ ?_
                   refine zJ ?_
                   refine zJ ?_
                   refine zJ ?_
                   refine zJ ?_
                   refine zJ ?_
                   refine zJ ?_
                   refine zH (.bool false) (fun w h => heldRun_value (by kernel_rfl) h) ?_
                   refine zH (.bool false) (fun w h => heldRun_value (by kernel_rfl) h) ?_
                   refine wpHeld_nil ?_
                   intro Y h
                   have F5 := Lib.hid h
                   clear h F4
                   go_wp2_with fail
                   go_ret
                   exact ⟨false, rfl, ⟨fun q => (by cases q), fun q => absurd q (fun q => by have := Z2.out; have := q.sz; unfold bkt at this; omega)⟩, F5.out.2⟩
                  ·have I1 := Lib.hid c0
                   clear c0
                   go_upto_region 10 with (fail)
                   refine wp_region_lit ?_
                   refine zP (.pointer (some ⟨g, 35, none⟩)) ?_
                   refine zQ (.bool true) (run_load_one _ _ _ 4 _ _ rfl (g) (35) rfl (hcell F4.out.1 ((Hdr.c35 HO.out).trans (by rw [HC.out]))) (by kernel_rfl)) ?_
                   refine zP (.bool false) ?_
                   refine zP (.bool false) ?_
                   refine zP (.pointer (some ⟨g, 53, none⟩)) ?_
                   refine zQ (.slice hd.ta hd.tn hd.tc) (run_load_one _ _ _ 35 _ _ rfl (g) (53) rfl (hcell F4.out.1 (Hdr.c53 HO.out)) (by kernel_rfl)) ?_
                   refine zP (.int .i64 (hd.tn : Int)) ?_
                   refine zQ (.bool true) (run_eqi Try.underlying3 rfl rfl rfl (by have := I2.out; rw [decide_eq_true_eq]; omega)) ?_
                   refine zP (.bool true) ?_
                   refine zP (.pointer (some ⟨g, 37, none⟩)) ?_
                   refine zQ (.agg (u8l hd.it).toArray) (run_load_mid _ _ _ 34 _ rfl g 37 rfl (u8l hd.it) _ (Hdr.rit HO.out F4.out.1) Try.underlying34 rfl (by rw [u8l_len, HO.out.il]; kernel_rfl)) ?_
                   refine zP (.agg (u8l (List.replicate 16 0)).toArray) ?_
                   refine zQ (.bool false) (run_eq16 _ _ _ _ _ hd.it (List.replicate 16 0) false HO.out.il List.length_replicate rfl rfl rfl (by rw [decide_eq_false I1.out])) ?_
                   refine zP (.bool false) ?_
                   refine zP (.bool false) ?_
                   refine zP (.bool false) ?_
                   go_upto_region 11 with (fail)
                   refine region_held_all (fun X => Blk X g 37 hd.L.toArray ∧ Below w.heap.size w X) (by kernel_rfl) (by kernel_rfl) (by exact ⟨F4.out.1.below (Below.drew (Below.refl _ _)), F4.out.2.trans (Below.drew (Below.refl _ _))⟩) ?_
                   refine zH (.bool false) (fun w h => heldRun_value (by kernel_rfl) h) ?_
                   refine zH (.bool false) (fun w h => heldRun_value (by kernel_rfl) h) ?_
                   refine zJ ?_
                   refine zH (.bool false) (fun w h => heldRun_value (by kernel_rfl) h) ?_
                   refine zH (.bool false) (fun w h => heldRun_value (by kernel_rfl) h) ?_
                   refine zJ ?_
                   refine zH (.bool false) (fun w h => heldRun_value (by kernel_rfl) h) ?_
                   refine zH (.bool false) (fun w h => heldRun_value (by kernel_rfl) h) ?_
                   refine zJ ?_
                   refine zJ ?_
                   refine zJ ?_
                   refine zJ ?_
                   refine zJ ?_
                   refine zJ ?_
                   refine zJ ?_
                   refine zJ ?_
                   refine zJ ?_
                   refine zJ ?_
                   refine zH (.bool false) (fun w h => heldRun_value (by kernel_rfl) h) ?_
                   refine zH (.bool false) (fun w h => heldRun_value (by kernel_rfl) h) ?_
                   refine wpHeld_nil ?_
                   intro Y h
                   have F5 := Lib.hid h
                   clear h F4
                   go_wp2_with fail
                   go_ret
                   exact ⟨false, rfl, ⟨fun q => (by cases q), fun q => absurd q (fun q => by have := Z2.out; have := q.sz; unfold bkt at this; omega)⟩, F5.out.2⟩
                 ·have I2 := Lib.hid c0
                  clear c0
                  go_upto_region 10 with (fail)
                  refine wp_region_lit ?_
                  refine zP (.pointer (some ⟨g, 35, none⟩)) ?_
                  refine zQ (.bool true) (run_load_one _ _ _ 4 _ _ rfl (g) (35) rfl (hcell F4.out.1 ((Hdr.c35 HO.out).trans (by rw [HC.out]))) (by kernel_rfl)) ?_
                  refine zP (.bool false) ?_
                  refine zP (.bool false) ?_
                  refine zP (.pointer (some ⟨g, 53, none⟩)) ?_
                  refine zQ (.slice hd.ta hd.tn hd.tc) (run_load_one _ _ _ 35 _ _ rfl (g) (53) rfl (hcell F4.out.1 (Hdr.c53 HO.out)) (by kernel_rfl)) ?_
                  refine zP (.int .i64 (hd.tn : Int)) ?_
                  refine zQ (.bool false) (run_eqi Try.underlying3 rfl rfl rfl (by have := I2.out; rw [decide_eq_false_iff_not]; omega)) ?_
                  refine zP (.bool false) ?_
                  refine zG ?_
                  refine zG ?_
                  refine zG ?_
                  refine zG ?_
                  refine zP (.bool false) ?_
                  refine zP (.bool false) ?_
                  refine zP (.bool false) ?_
                  go_upto_region 11 with (fail)
                  refine region_held_all (fun X => Blk X g 37 hd.L.toArray ∧ Below w.heap.size w X) (by kernel_rfl) (by kernel_rfl) (by exact ⟨F4.out.1.below (Below.drew (Below.refl _ _)), F4.out.2.trans (Below.drew (Below.refl _ _))⟩) ?_
                  refine zH (.bool false) (fun w h => heldRun_value (by kernel_rfl) h) ?_
                  refine zH (.bool false) (fun w h => heldRun_value (by kernel_rfl) h) ?_
                  refine zJ ?_
                  refine zH (.bool false) (fun w h => heldRun_value (by kernel_rfl) h) ?_
                  refine zH (.bool false) (fun w h => heldRun_value (by kernel_rfl) h) ?_
                  refine zJ ?_
                  refine zH (.bool false) (fun w h => heldRun_value (by kernel_rfl) h) ?_
                  refine zH (.bool false) (fun w h => heldRun_value (by kernel_rfl) h) ?_
                  refine zJ ?_
                  refine zJ ?_
                  refine zJ ?_
                  refine zJ ?_
                  refine zJ ?_
                  refine zJ ?_
                  refine zJ ?_
                  refine zJ ?_
                  refine zJ ?_
                  refine zJ ?_
                  refine zH (.bool false) (fun w h => heldRun_value (by kernel_rfl) h) ?_
                  refine zH (.bool false) (fun w h => heldRun_value (by kernel_rfl) h) ?_
                  refine wpHeld_nil ?_
                  intro Y h
                  have F5 := Lib.hid h
                  clear h F4
                  go_wp2_with fail
                  go_ret
                  exact ⟨false, rfl, ⟨fun q => (by cases q), fun q => absurd q (fun q => by have := Z2.out; have := q.sz; unfold bkt at this; omega)⟩, F5.out.2⟩
            ·have Z1 := Lib.hid c0
             clear c0
             go_upto_region 8 with (fail)
             refine region_held_all (fun X => Blk X g 37 hd.L.toArray ∧ Below w.heap.size w X) (by kernel_rfl) (by kernel_rfl) (by exact ⟨F3.out.1.below (Below.drew (Below.refl _ _)), F3.out.2.trans (Below.drew (Below.refl _ _))⟩) ?_
             refine zH (.pointer (some ⟨g, 92, none⟩)) (fun w h => heldRun_value (by kernel_rfl) h) ?_
             refine zH (.int .i64 hd.sz) (fun w h => heldRun_value (run_load_one _ _ _ 3 _ _ rfl (g) (92) rfl (hcell h.1 (Hdr.c92 HO.out)) (by kernel_rfl)) h) ?_
             refine zH (.bool false) (fun w h => heldRun_value (run_gei Try.underlying3 rfl rfl rfl (by have := Z1.out; rw [decide_eq_false_iff_not]; omega)) h) ?_
             refine zH (.bool false) (fun w h => heldRun_value (by kernel_rfl) h) ?_
             refine zJ ?_
             refine zJ ?_
             refine zJ ?_
             refine zH (.bool false) (fun w h => heldRun_value (by kernel_rfl) h) ?_
             refine zH (.bool false) (fun w h => heldRun_value (by kernel_rfl) h) ?_
             refine zJ ?_
             refine zJ ?_
             refine zJ ?_
             refine zJ ?_
             refine zJ ?_
             refine zJ ?_
             refine zJ ?_
             refine zJ ?_
             refine zH (.bool false) (fun w h => heldRun_value (by kernel_rfl) h) ?_
             refine zH (.bool false) (fun w h => heldRun_value (by kernel_rfl) h) ?_
             refine wpHeld_nil ?_
             intro X h
             have F4 := Lib.hid h
             clear h F3
             by_cases c0 : 1 < hd.sq
             ·have Q1 := Lib.hid c0
              clear c0
              go_upto_region 9 with (fail)
              refine wp_region_lit ?_
              refine zP (.pointer (some ⟨g, 1, none⟩)) ?_
              refine zQ (.int .u64 hd.sq) (run_load_one _ _ _ 22 _ _ rfl (g) (1) rfl (hcell F4.out.1 (Hdr.c1)) (by kernel_rfl)) ?_
              refine zQ (.bool true) (run_gti Try.underlying22 rfl rfl rfl (by have := Q1.out; rw [decide_eq_true_eq]; omega)) ?_
              refine zP (.bool true) ?_
              refine zG ?_
              refine zG ?_
              refine zG ?_
              refine zG ?_
              refine zP (.bool true) ?_
              refine zP (.bool true) ?_
              obtain ⟨cz, hcz⟩ : ∃ z, hd.ct = z := ⟨_, rfl⟩
              have HC := Lib.hid hcz
              clear hcz
              cases cz
              ·go_upto_region 10 with (fail)
               refine wp_region_lit ?_
               refine zP (.pointer (some ⟨g, 35, none⟩)) ?_
               refine zQ (.bool false) (run_load_one _ _ _ 4 _ _ rfl (g) (35) rfl (hcell F4.out.1 ((Hdr.c35 HO.out).trans (by rw [HC.out]))) (by kernel_rfl)) ?_
               refine zP (.bool true) ?_
               refine zP (.bool true) ?_
               refine zG ?_
               refine zG ?_
               refine zG ?_
               refine zG ?_
               refine zG ?_
               refine zG ?_
               refine zG ?_
               refine zG ?_
               refine zG ?_
               refine zG ?_
               refine zP (.bool true) ?_
               refine zP (.bool true) ?_
               go_upto_region 11 with (fail)
               refine region_held_all (fun X => Blk X g 37 hd.L.toArray ∧ Below w.heap.size w X) (by kernel_rfl) (by kernel_rfl) (by exact ⟨F4.out.1.below (Below.drew (Below.refl _ _)), F4.out.2.trans (Below.drew (Below.refl _ _))⟩) ?_
               refine zH (.bool false) (fun w h => heldRun_value (by kernel_rfl) h) ?_
               refine zH (.bool false) (fun w h => heldRun_value (by kernel_rfl) h) ?_
               refine zJ ?_
               refine zH (.bool false) (fun w h => heldRun_value (by kernel_rfl) h) ?_
               refine zH (.bool false) (fun w h => heldRun_value (by kernel_rfl) h) ?_
               refine zJ ?_
               refine zH (.bool false) (fun w h => heldRun_value (by kernel_rfl) h) ?_
               refine zH (.bool false) (fun w h => heldRun_value (by kernel_rfl) h) ?_
               refine zJ ?_
               refine zJ ?_
               refine zJ ?_
               refine zJ ?_
               refine zJ ?_
               refine zJ ?_
               refine zJ ?_
               refine zJ ?_
               refine zJ ?_
               refine zJ ?_
               refine zH (.bool false) (fun w h => heldRun_value (by kernel_rfl) h) ?_
               refine zH (.bool false) (fun w h => heldRun_value (by kernel_rfl) h) ?_
               refine wpHeld_nil ?_
               intro Y h
               have F5 := Lib.hid h
               clear h F4
               go_wp2_with fail
               go_ret
               exact ⟨false, rfl, ⟨fun q => (by cases q), fun q => absurd q (fun q => by have := Z1.out; have := q.sz; unfold bkt at this; omega)⟩, F5.out.2⟩
              ·by_cases c0 : hd.tn = 0
               ·have I2 := Lib.hid c0
                clear c0
                by_cases c0 : hd.it = (List.replicate 16 0)
                ·have I1 := Lib.hid c0
                 clear c0
                 go_upto_region 10 with (fail)
                 refine wp_region_lit ?_
                 refine zP (.pointer (some ⟨g, 35, none⟩)) ?_
                 refine zQ (.bool true) (run_load_one _ _ _ 4 _ _ rfl (g) (35) rfl (hcell F4.out.1 ((Hdr.c35 HO.out).trans (by rw [HC.out]))) (by kernel_rfl)) ?_
                 refine zP (.bool false) ?_
                 refine zP (.bool false) ?_
                 refine zP (.pointer (some ⟨g, 53, none⟩)) ?_
                 refine zQ (.slice hd.ta hd.tn hd.tc) (run_load_one _ _ _ 35 _ _ rfl (g) (53) rfl (hcell F4.out.1 (Hdr.c53 HO.out)) (by kernel_rfl)) ?_
                 refine zP (.int .i64 (hd.tn : Int)) ?_
                 refine zQ (.bool true) (run_eqi Try.underlying3 rfl rfl rfl (by have := I2.out; rw [decide_eq_true_eq]; omega)) ?_
                 refine zP (.bool true) ?_
                 refine zP (.pointer (some ⟨g, 37, none⟩)) ?_
                 refine zQ (.agg (u8l hd.it).toArray) (run_load_mid _ _ _ 34 _ rfl g 37 rfl (u8l hd.it) _ (Hdr.rit HO.out F4.out.1) Try.underlying34 rfl (by rw [u8l_len, HO.out.il]; kernel_rfl)) ?_
                 refine zP (.agg (u8l (List.replicate 16 0)).toArray) ?_
                 refine zQ (.bool true) (run_eq16 _ _ _ _ _ hd.it (List.replicate 16 0) true HO.out.il List.length_replicate rfl rfl rfl (by rw [decide_eq_true I1.out])) ?_
                 refine zP (.bool true) ?_
                 refine zP (.bool true) ?_
                 refine zP (.bool true) ?_
                 go_upto_region 11 with (fail)
                 refine region_held_all (fun X => Blk X g 37 hd.L.toArray ∧ Below w.heap.size w X) (by kernel_rfl) (by kernel_rfl) (by exact ⟨F4.out.1.below (Below.drew (Below.refl _ _)), F4.out.2.trans (Below.drew (Below.refl _ _))⟩) ?_
                 refine zH (.bool false) (fun w h => heldRun_value (by kernel_rfl) h) ?_
                 refine zH (.bool false) (fun w h => heldRun_value (by kernel_rfl) h) ?_
                 refine zJ ?_
                 refine zH (.bool false) (fun w h => heldRun_value (by kernel_rfl) h) ?_
                 refine zH (.bool false) (fun w h => heldRun_value (by kernel_rfl) h) ?_
                 refine zJ ?_
                 refine zH (.bool false) (fun w h => heldRun_value (by kernel_rfl) h) ?_
                 refine zH (.bool false) (fun w h => heldRun_value (by kernel_rfl) h) ?_
                 refine zJ ?_
                 refine zJ ?_
                 refine zJ ?_
                 refine zJ ?_
                 refine zJ ?_
                 refine zJ ?_
                 refine zJ ?_
                 refine zJ ?_
                 refine zJ ?_
                 refine zJ ?_
                 refine zH (.bool false) (fun w h => heldRun_value (by kernel_rfl) h) ?_
                 refine zH (.bool false) (fun w h => heldRun_value (by kernel_rfl) h) ?_
                 refine wpHeld_nil ?_
                 intro Y h
                 have F5 := Lib.hid h
                 clear h F4
                 go_wp2_with fail
                 go_ret
                 exact ⟨false, rfl, ⟨fun q => (by cases q), fun q => absurd q (fun q => by have := Z1.out; have := q.sz; unfold bkt at this; omega)⟩, F5.out.2⟩
                ·have I1 := Lib.hid c0
                 clear c0
                 go_upto_region 10 with (fail)
                 refine wp_region_lit ?_
                 refine zP (.pointer (some ⟨g, 35, none⟩)) ?_
                 refine zQ (.bool true) (run_load_one _ _ _ 4 _ _ rfl (g) (35) rfl (hcell F4.out.1 ((Hdr.c35 HO.out).trans (by rw [HC.out]))) (by kernel_rfl)) ?_
                 refine zP (.bool false) ?_
                 refine zP (.bool false) ?_
                 refine zP (.pointer (some ⟨g, 53, none⟩)) ?_
                 refine zQ (.slice hd.ta hd.tn hd.tc) (run_load_one _ _ _ 35 _ _ rfl (g) (53) rfl (hcell F4.out.1 (Hdr.c53 HO.out)) (by kernel_rfl)) ?_
                 refine zP (.int .i64 (hd.tn : Int)) ?_
                 refine zQ (.bool true) (run_eqi Try.underlying3 rfl rfl rfl (by have := I2.out; rw [decide_eq_true_eq]; omega)) ?_
                 refine zP (.bool true) ?_
                 refine zP (.pointer (some ⟨g, 37, none⟩)) ?_
                 refine zQ (.agg (u8l hd.it).toArray) (run_load_mid _ _ _ 34 _ rfl g 37 rfl (u8l hd.it) _ (Hdr.rit HO.out F4.out.1) Try.underlying34 rfl (by rw [u8l_len, HO.out.il]; kernel_rfl)) ?_
                 refine zP (.agg (u8l (List.replicate 16 0)).toArray) ?_
                 refine zQ (.bool false) (run_eq16 _ _ _ _ _ hd.it (List.replicate 16 0) false HO.out.il List.length_replicate rfl rfl rfl (by rw [decide_eq_false I1.out])) ?_
                 refine zP (.bool false) ?_
                 refine zP (.bool false) ?_
                 refine zP (.bool false) ?_
                 go_upto_region 11 with (fail)
                 refine region_held_all (fun X => Blk X g 37 hd.L.toArray ∧ Below w.heap.size w X) (by kernel_rfl) (by kernel_rfl) (by exact ⟨F4.out.1.below (Below.drew (Below.refl _ _)), F4.out.2.trans (Below.drew (Below.refl _ _))⟩) ?_
                 refine zH (.bool false) (fun w h => heldRun_value (by kernel_rfl) h) ?_
                 refine zH (.bool false) (fun w h => heldRun_value (by kernel_rfl) h) ?_
                 refine zJ ?_
                 refine zH (.bool false) (fun w h => heldRun_value (by kernel_rfl) h) ?_
                 refine zH (.bool false) (fun w h => heldRun_value (by kernel_rfl) h) ?_
                 refine zJ ?_
                 refine zH (.bool false) (fun w h => heldRun_value (by kernel_rfl) h) ?_
                 refine zH (.bool false) (fun w h => heldRun_value (by kernel_rfl) h) ?_
                 refine zJ ?_
                 refine zJ ?_
                 refine zJ ?_
                 refine zJ ?_
                 refine zJ ?_
                 refine zJ ?_
                 refine zJ ?_
                 refine zJ ?_
                 refine zJ ?_
                 refine zJ ?_
                 refine zH (.bool false) (fun w h => heldRun_value (by kernel_rfl) h) ?_
                 refine zH (.bool false) (fun w h => heldRun_value (by kernel_rfl) h) ?_
                 refine wpHeld_nil ?_
                 intro Y h
                 have F5 := Lib.hid h
                 clear h F4
                 go_wp2_with fail
                 go_ret
                 exact ⟨false, rfl, ⟨fun q => (by cases q), fun q => absurd q (fun q => by have := Z1.out; have := q.sz; unfold bkt at this; omega)⟩, F5.out.2⟩
               ·have I2 := Lib.hid c0
                clear c0
                go_upto_region 10 with (fail)
                refine wp_region_lit ?_
                refine zP (.pointer (some ⟨g, 35, none⟩)) ?_
                refine zQ (.bool true) (run_load_one _ _ _ 4 _ _ rfl (g) (35) rfl (hcell F4.out.1 ((Hdr.c35 HO.out).trans (by rw [HC.out]))) (by kernel_rfl)) ?_
                refine zP (.bool false) ?_
                refine zP (.bool false) ?_
                refine zP (.pointer (some ⟨g, 53, none⟩)) ?_
                refine zQ (.slice hd.ta hd.tn hd.tc) (run_load_one _ _ _ 35 _ _ rfl (g) (53) rfl (hcell F4.out.1 (Hdr.c53 HO.out)) (by kernel_rfl)) ?_
                refine zP (.int .i64 (hd.tn : Int)) ?_
                refine zQ (.bool false) (run_eqi Try.underlying3 rfl rfl rfl (by have := I2.out; rw [decide_eq_false_iff_not]; omega)) ?_
                refine zP (.bool false) ?_
                refine zG ?_
                refine zG ?_
                refine zG ?_
                refine zG ?_
                refine zP (.bool false) ?_
                refine zP (.bool false) ?_
                refine zP (.bool false) ?_
                go_upto_region 11 with (fail)
                refine region_held_all (fun X => Blk X g 37 hd.L.toArray ∧ Below w.heap.size w X) (by kernel_rfl) (by kernel_rfl) (by exact ⟨F4.out.1.below (Below.drew (Below.refl _ _)), F4.out.2.trans (Below.drew (Below.refl _ _))⟩) ?_
                refine zH (.bool false) (fun w h => heldRun_value (by kernel_rfl) h) ?_
                refine zH (.bool false) (fun w h => heldRun_value (by kernel_rfl) h) ?_
                refine zJ ?_
                refine zH (.bool false) (fun w h => heldRun_value (by kernel_rfl) h) ?_
                refine zH (.bool false) (fun w h => heldRun_value (by kernel_rfl) h) ?_
                refine zJ ?_
                refine zH (.bool false) (fun w h => heldRun_value (by kernel_rfl) h) ?_
                refine zH (.bool false) (fun w h => heldRun_value (by kernel_rfl) h) ?_
                refine zJ ?_
                refine zJ ?_
                refine zJ ?_
                refine zJ ?_
                refine zJ ?_
                refine zJ ?_
                refine zJ ?_
                refine zJ ?_
                refine zJ ?_
                refine zJ ?_
                refine zH (.bool false) (fun w h => heldRun_value (by kernel_rfl) h) ?_
                refine zH (.bool false) (fun w h => heldRun_value (by kernel_rfl) h) ?_
                refine wpHeld_nil ?_
                intro Y h
                have F5 := Lib.hid h
                clear h F4
                go_wp2_with fail
                go_ret
                exact ⟨false, rfl, ⟨fun q => (by cases q), fun q => absurd q (fun q => by have := Z1.out; have := q.sz; unfold bkt at this; omega)⟩, F5.out.2⟩
             ·have Q1 := Lib.hid c0
              clear c0
              by_cases c0 : hd.pv = (List.replicate 32 0)
              ·have Q2 := Lib.hid c0
               clear c0
               go_upto_region 9 with (fail)
               refine wp_region_lit ?_
               refine zP (.pointer (some ⟨g, 1, none⟩)) ?_
               refine zQ (.int .u64 hd.sq) (run_load_one _ _ _ 22 _ _ rfl (g) (1) rfl (hcell F4.out.1 (Hdr.c1)) (by kernel_rfl)) ?_
               refine zQ (.bool false) (run_gti Try.underlying22 rfl rfl rfl (by have := Q1.out; rw [decide_eq_false_iff_not]; omega)) ?_
               refine zP (.bool false) ?_
               refine zP (.pointer (some ⟨g, 2, none⟩)) ?_
               refine zQ (.agg (u8l hd.pv).toArray) (run_load_mid _ _ _ 32 _ rfl g 2 rfl (u8l hd.pv) _ (Hdr.rpv HO.out F4.out.1) Try.underlying32 rfl (by rw [u8l_len, HO.out.pl]; kernel_rfl)) ?_
               refine zP (.agg (u8l (List.replicate 32 0)).toArray) ?_
               refine zQ (.bool true) (run_eq32 _ _ _ _ _ hd.pv (List.replicate 32 0) true HO.out.pl List.length_replicate rfl rfl rfl (by rw [decide_eq_true Q2.out])) ?_
               refine zP (.bool true) ?_
               refine zP (.bool true) ?_
               obtain ⟨cz, hcz⟩ : ∃ z, hd.ct = z := ⟨_, rfl⟩
               have HC := Lib.hid hcz
               clear hcz
               cases cz
               ·go_upto_region 10 with (fail)
                refine wp_region_lit ?_
                refine zP (.pointer (some ⟨g, 35, none⟩)) ?_
                refine zQ (.bool false) (run_load_one _ _ _ 4 _ _ rfl (g) (35) rfl (hcell F4.out.1 ((Hdr.c35 HO.out).trans (by rw [HC.out]))) (by kernel_rfl)) ?_
                refine zP (.bool true) ?_
                refine zP (.bool true) ?_
                refine zG ?_
                refine zG ?_
                refine zG ?_
                refine zG ?_
                refine zG ?_
                refine zG ?_
                refine zG ?_
                refine zG ?_
                refine zG ?_
                refine zG ?_
                refine zP (.bool true) ?_
                refine zP (.bool true) ?_
                go_upto_region 11 with (fail)
                refine region_held_all (fun X => Blk X g 37 hd.L.toArray ∧ Below w.heap.size w X) (by kernel_rfl) (by kernel_rfl) (by exact ⟨F4.out.1.below (Below.drew (Below.refl _ _)), F4.out.2.trans (Below.drew (Below.refl _ _))⟩) ?_
                refine zH (.bool false) (fun w h => heldRun_value (by kernel_rfl) h) ?_
                refine zH (.bool false) (fun w h => heldRun_value (by kernel_rfl) h) ?_
                refine zJ ?_
                refine zH (.bool false) (fun w h => heldRun_value (by kernel_rfl) h) ?_
                refine zH (.bool false) (fun w h => heldRun_value (by kernel_rfl) h) ?_
                refine zJ ?_
                refine zH (.bool false) (fun w h => heldRun_value (by kernel_rfl) h) ?_
                refine zH (.bool false) (fun w h => heldRun_value (by kernel_rfl) h) ?_
                refine zJ ?_
                refine zJ ?_
                refine zJ ?_
                refine zJ ?_
                refine zJ ?_
                refine zJ ?_
                refine zJ ?_
                refine zJ ?_
                refine zJ ?_
                refine zJ ?_
                refine zH (.bool false) (fun w h => heldRun_value (by kernel_rfl) h) ?_
                refine zH (.bool false) (fun w h => heldRun_value (by kernel_rfl) h) ?_
                refine wpHeld_nil ?_
                intro Y h
                have F5 := Lib.hid h
                clear h F4
                go_wp2_with fail
                go_ret
                exact ⟨false, rfl, ⟨fun q => (by cases q), fun q => absurd q (fun q => by have := Z1.out; have := q.sz; unfold bkt at this; omega)⟩, F5.out.2⟩
               ·by_cases c0 : hd.tn = 0
                ·have I2 := Lib.hid c0
                 clear c0
                 by_cases c0 : hd.it = (List.replicate 16 0)
                 ·have I1 := Lib.hid c0
                  clear c0
                  go_upto_region 10 with (fail)
                  refine wp_region_lit ?_
                  refine zP (.pointer (some ⟨g, 35, none⟩)) ?_
                  refine zQ (.bool true) (run_load_one _ _ _ 4 _ _ rfl (g) (35) rfl (hcell F4.out.1 ((Hdr.c35 HO.out).trans (by rw [HC.out]))) (by kernel_rfl)) ?_
                  refine zP (.bool false) ?_
                  refine zP (.bool false) ?_
                  refine zP (.pointer (some ⟨g, 53, none⟩)) ?_
                  refine zQ (.slice hd.ta hd.tn hd.tc) (run_load_one _ _ _ 35 _ _ rfl (g) (53) rfl (hcell F4.out.1 (Hdr.c53 HO.out)) (by kernel_rfl)) ?_
                  refine zP (.int .i64 (hd.tn : Int)) ?_
                  refine zQ (.bool true) (run_eqi Try.underlying3 rfl rfl rfl (by have := I2.out; rw [decide_eq_true_eq]; omega)) ?_
                  refine zP (.bool true) ?_
                  refine zP (.pointer (some ⟨g, 37, none⟩)) ?_
                  refine zQ (.agg (u8l hd.it).toArray) (run_load_mid _ _ _ 34 _ rfl g 37 rfl (u8l hd.it) _ (Hdr.rit HO.out F4.out.1) Try.underlying34 rfl (by rw [u8l_len, HO.out.il]; kernel_rfl)) ?_
                  refine zP (.agg (u8l (List.replicate 16 0)).toArray) ?_
                  refine zQ (.bool true) (run_eq16 _ _ _ _ _ hd.it (List.replicate 16 0) true HO.out.il List.length_replicate rfl rfl rfl (by rw [decide_eq_true I1.out])) ?_
                  refine zP (.bool true) ?_
                  refine zP (.bool true) ?_
                  refine zP (.bool true) ?_
                  go_upto_region 11 with (fail)
                  refine region_held_all (fun X => Blk X g 37 hd.L.toArray ∧ Below w.heap.size w X) (by kernel_rfl) (by kernel_rfl) (by exact ⟨F4.out.1.below (Below.drew (Below.refl _ _)), F4.out.2.trans (Below.drew (Below.refl _ _))⟩) ?_
                  refine zH (.bool false) (fun w h => heldRun_value (by kernel_rfl) h) ?_
                  refine zH (.bool false) (fun w h => heldRun_value (by kernel_rfl) h) ?_
                  refine zJ ?_
                  refine zH (.bool false) (fun w h => heldRun_value (by kernel_rfl) h) ?_
                  refine zH (.bool false) (fun w h => heldRun_value (by kernel_rfl) h) ?_
                  refine zJ ?_
                  refine zH (.bool false) (fun w h => heldRun_value (by kernel_rfl) h) ?_
                  refine zH (.bool false) (fun w h => heldRun_value (by kernel_rfl) h) ?_
                  refine zJ ?_
                  refine zJ ?_
                  refine zJ ?_
                  refine zJ ?_
                  refine zJ ?_
                  refine zJ ?_
                  refine zJ ?_
                  refine zJ ?_
                  refine zJ ?_
                  refine zJ ?_
                  refine zH (.bool false) (fun w h => heldRun_value (by kernel_rfl) h) ?_
                  refine zH (.bool false) (fun w h => heldRun_value (by kernel_rfl) h) ?_
                  refine wpHeld_nil ?_
                  intro Y h
                  have F5 := Lib.hid h
                  clear h F4
                  go_wp2_with fail
                  go_ret
                  exact ⟨false, rfl, ⟨fun q => (by cases q), fun q => absurd q (fun q => by have := Z1.out; have := q.sz; unfold bkt at this; omega)⟩, F5.out.2⟩
                 ·have I1 := Lib.hid c0
                  clear c0
                  go_upto_region 10 with (fail)
                  refine wp_region_lit ?_
                  refine zP (.pointer (some ⟨g, 35, none⟩)) ?_
                  refine zQ (.bool true) (run_load_one _ _ _ 4 _ _ rfl (g) (35) rfl (hcell F4.out.1 ((Hdr.c35 HO.out).trans (by rw [HC.out]))) (by kernel_rfl)) ?_
                  refine zP (.bool false) ?_
                  refine zP (.bool false) ?_
                  refine zP (.pointer (some ⟨g, 53, none⟩)) ?_
                  refine zQ (.slice hd.ta hd.tn hd.tc) (run_load_one _ _ _ 35 _ _ rfl (g) (53) rfl (hcell F4.out.1 (Hdr.c53 HO.out)) (by kernel_rfl)) ?_
                  refine zP (.int .i64 (hd.tn : Int)) ?_
                  refine zQ (.bool true) (run_eqi Try.underlying3 rfl rfl rfl (by have := I2.out; rw [decide_eq_true_eq]; omega)) ?_
                  refine zP (.bool true) ?_
                  refine zP (.pointer (some ⟨g, 37, none⟩)) ?_
                  refine zQ (.agg (u8l hd.it).toArray) (run_load_mid _ _ _ 34 _ rfl g 37 rfl (u8l hd.it) _ (Hdr.rit HO.out F4.out.1) Try.underlying34 rfl (by rw [u8l_len, HO.out.il]; kernel_rfl)) ?_
                  refine zP (.agg (u8l (List.replicate 16 0)).toArray) ?_
                  refine zQ (.bool false) (run_eq16 _ _ _ _ _ hd.it (List.replicate 16 0) false HO.out.il List.length_replicate rfl rfl rfl (by rw [decide_eq_false I1.out])) ?_
                  refine zP (.bool false) ?_
                  refine zP (.bool false) ?_
                  refine zP (.bool false) ?_
                  go_upto_region 11 with (fail)
                  refine region_held_all (fun X => Blk X g 37 hd.L.toArray ∧ Below w.heap.size w X) (by kernel_rfl) (by kernel_rfl) (by exact ⟨F4.out.1.below (Below.drew (Below.refl _ _)), F4.out.2.trans (Below.drew (Below.refl _ _))⟩) ?_
                  refine zH (.bool false) (fun w h => heldRun_value (by kernel_rfl) h) ?_
                  refine zH (.bool false) (fun w h => heldRun_value (by kernel_rfl) h) ?_
                  refine zJ ?_
                  refine zH (.bool false) (fun w h => heldRun_value (by kernel_rfl) h) ?_
                  refine zH (.bool false) (fun w h => heldRun_value (by kernel_rfl) h) ?_
                  refine zJ ?_
                  refine zH (.bool false) (fun w h => heldRun_value (by kernel_rfl) h) ?_
                  refine zH (.bool false) (fun w h => heldRun_value (by kernel_rfl) h) ?_
                  refine zJ ?_
                  refine zJ ?_
                  refine zJ ?_
                  refine zJ ?_
                  refine zJ ?_
                  refine zJ ?_
                  refine zJ ?_
                  refine zJ ?_
                  refine zJ ?_
                  refine zJ ?_
                  refine zH (.bool false) (fun w h => heldRun_value (by kernel_rfl) h) ?_
                  refine zH (.bool false) (fun w h => heldRun_value (by kernel_rfl) h) ?_
                  refine wpHeld_nil ?_
                  intro Y h
                  have F5 := Lib.hid h
                  clear h F4
                  go_wp2_with fail
                  go_ret
                  exact ⟨false, rfl, ⟨fun q => (by cases q), fun q => absurd q (fun q => by have := Z1.out; have := q.sz; unfold bkt at this; omega)⟩, F5.out.2⟩
                ·have I2 := Lib.hid c0
                 clear c0
                 go_upto_region 10 with (fail)
                 refine wp_region_lit ?_
                 refine zP (.pointer (some ⟨g, 35, none⟩)) ?_
                 refine zQ (.bool true) (run_load_one _ _ _ 4 _ _ rfl (g) (35) rfl (hcell F4.out.1 ((Hdr.c35 HO.out).trans (by rw [HC.out]))) (by kernel_rfl)) ?_
                 refine zP (.bool false) ?_
                 refine zP (.bool false) ?_
                 refine zP (.pointer (some ⟨g, 53, none⟩)) ?_
                 refine zQ (.slice hd.ta hd.tn hd.tc) (run_load_one _ _ _ 35 _ _ rfl (g) (53) rfl (hcell F4.out.1 (Hdr.c53 HO.out)) (by kernel_rfl)) ?_
                 refine zP (.int .i64 (hd.tn : Int)) ?_
                 refine zQ (.bool false) (run_eqi Try.underlying3 rfl rfl rfl (by have := I2.out; rw [decide_eq_false_iff_not]; omega)) ?_
                 refine zP (.bool false) ?_
                 refine zG ?_
                 refine zG ?_
                 refine zG ?_
                 refine zG ?_
                 refine zP (.bool false) ?_
                 refine zP (.bool false) ?_
                 refine zP (.bool false) ?_
                 go_upto_region 11 with (fail)
                 refine region_held_all (fun X => Blk X g 37 hd.L.toArray ∧ Below w.heap.size w X) (by kernel_rfl) (by kernel_rfl) (by exact ⟨F4.out.1.below (Below.drew (Below.refl _ _)), F4.out.2.trans (Below.drew (Below.refl _ _))⟩) ?_
                 refine zH (.bool false) (fun w h => heldRun_value (by kernel_rfl) h) ?_
                 refine zH (.bool false) (fun w h => heldRun_value (by kernel_rfl) h) ?_
                 refine zJ ?_
                 refine zH (.bool false) (fun w h => heldRun_value (by kernel_rfl) h) ?_
                 refine zH (.bool false) (fun w h => heldRun_value (by kernel_rfl) h) ?_
                 refine zJ ?_
                 refine zH (.bool false) (fun w h => heldRun_value (by kernel_rfl) h) ?_
                 refine zH (.bool false) (fun w h => heldRun_value (by kernel_rfl) h) ?_
                 refine zJ ?_
                 refine zJ ?_
                 refine zJ ?_
                 refine zJ ?_
                 refine zJ ?_
                 refine zJ ?_
                 refine zJ ?_
                 refine zJ ?_
                 refine zJ ?_
                 refine zJ ?_
                 refine zH (.bool false) (fun w h => heldRun_value (by kernel_rfl) h) ?_
                 refine zH (.bool false) (fun w h => heldRun_value (by kernel_rfl) h) ?_
                 refine wpHeld_nil ?_
                 intro Y h
                 have F5 := Lib.hid h
                 clear h F4
                 go_wp2_with fail
                 go_ret
                 exact ⟨false, rfl, ⟨fun q => (by cases q), fun q => absurd q (fun q => by have := Z1.out; have := q.sz; unfold bkt at this; omega)⟩, F5.out.2⟩
              ·have Q2 := Lib.hid c0
               clear c0
               go_upto_region 9 with (fail)
               refine wp_region_lit ?_
               refine zP (.pointer (some ⟨g, 1, none⟩)) ?_
               refine zQ (.int .u64 hd.sq) (run_load_one _ _ _ 22 _ _ rfl (g) (1) rfl (hcell F4.out.1 (Hdr.c1)) (by kernel_rfl)) ?_
               refine zQ (.bool false) (run_gti Try.underlying22 rfl rfl rfl (by have := Q1.out; rw [decide_eq_false_iff_not]; omega)) ?_
               refine zP (.bool false) ?_
               refine zP (.pointer (some ⟨g, 2, none⟩)) ?_
               refine zQ (.agg (u8l hd.pv).toArray) (run_load_mid _ _ _ 32 _ rfl g 2 rfl (u8l hd.pv) _ (Hdr.rpv HO.out F4.out.1) Try.underlying32 rfl (by rw [u8l_len, HO.out.pl]; kernel_rfl)) ?_
               refine zP (.agg (u8l (List.replicate 32 0)).toArray) ?_
               refine zQ (.bool false) (run_eq32 _ _ _ _ _ hd.pv (List.replicate 32 0) false HO.out.pl List.length_replicate rfl rfl rfl (by rw [decide_eq_false Q2.out])) ?_
               refine zP (.bool false) ?_
               refine zP (.bool false) ?_
               obtain ⟨cz, hcz⟩ : ∃ z, hd.ct = z := ⟨_, rfl⟩
               have HC := Lib.hid hcz
               clear hcz
               cases cz
               ·go_upto_region 10 with (fail)
                refine wp_region_lit ?_
                refine zP (.pointer (some ⟨g, 35, none⟩)) ?_
                refine zQ (.bool false) (run_load_one _ _ _ 4 _ _ rfl (g) (35) rfl (hcell F4.out.1 ((Hdr.c35 HO.out).trans (by rw [HC.out]))) (by kernel_rfl)) ?_
                refine zP (.bool true) ?_
                refine zP (.bool true) ?_
                refine zG ?_
                refine zG ?_
                refine zG ?_
                refine zG ?_
                refine zG ?_
                refine zG ?_
                refine zG ?_
                refine zG ?_
                refine zG ?_
                refine zG ?_
                refine zP (.bool true) ?_
                refine zP (.bool true) ?_
                go_upto_region 11 with (fail)
                refine region_held_all (fun X => Blk X g 37 hd.L.toArray ∧ Below w.heap.size w X) (by kernel_rfl) (by kernel_rfl) (by exact ⟨F4.out.1.below (Below.drew (Below.refl _ _)), F4.out.2.trans (Below.drew (Below.refl _ _))⟩) ?_
                refine zH (.bool false) (fun w h => heldRun_value (by kernel_rfl) h) ?_
                refine zH (.bool false) (fun w h => heldRun_value (by kernel_rfl) h) ?_
                refine zJ ?_
                refine zH (.bool false) (fun w h => heldRun_value (by kernel_rfl) h) ?_
                refine zH (.bool false) (fun w h => heldRun_value (by kernel_rfl) h) ?_
                refine zJ ?_
                refine zH (.bool false) (fun w h => heldRun_value (by kernel_rfl) h) ?_
                refine zH (.bool false) (fun w h => heldRun_value (by kernel_rfl) h) ?_
                refine zJ ?_
                refine zJ ?_
                refine zJ ?_
                refine zJ ?_
                refine zJ ?_
                refine zJ ?_
                refine zJ ?_
                refine zJ ?_
                refine zJ ?_
                refine zJ ?_
                refine zH (.bool false) (fun w h => heldRun_value (by kernel_rfl) h) ?_
                refine zH (.bool false) (fun w h => heldRun_value (by kernel_rfl) h) ?_
                refine wpHeld_nil ?_
                intro Y h
                have F5 := Lib.hid h
                clear h F4
                go_wp2_with fail
                go_ret
                exact ⟨false, rfl, ⟨fun q => (by cases q), fun q => absurd q (fun q => by have := Z1.out; have := q.sz; unfold bkt at this; omega)⟩, F5.out.2⟩
               ·by_cases c0 : hd.tn = 0
                ·have I2 := Lib.hid c0
                 clear c0
                 by_cases c0 : hd.it = (List.replicate 16 0)
                 ·have I1 := Lib.hid c0
                  clear c0
                  go_upto_region 10 with (fail)
                  refine wp_region_lit ?_
                  refine zP (.pointer (some ⟨g, 35, none⟩)) ?_
                  refine zQ (.bool true) (run_load_one _ _ _ 4 _ _ rfl (g) (35) rfl (hcell F4.out.1 ((Hdr.c35 HO.out).trans (by rw [HC.out]))) (by kernel_rfl)) ?_
                  refine zP (.bool false) ?_
                  refine zP (.bool false) ?_
                  refine zP (.pointer (some ⟨g, 53, none⟩)) ?_
                  refine zQ (.slice hd.ta hd.tn hd.tc) (run_load_one _ _ _ 35 _ _ rfl (g) (53) rfl (hcell F4.out.1 (Hdr.c53 HO.out)) (by kernel_rfl)) ?_
                  refine zP (.int .i64 (hd.tn : Int)) ?_
                  refine zQ (.bool true) (run_eqi Try.underlying3 rfl rfl rfl (by have := I2.out; rw [decide_eq_true_eq]; omega)) ?_
                  refine zP (.bool true) ?_
                  refine zP (.pointer (some ⟨g, 37, none⟩)) ?_
                  refine zQ (.agg (u8l hd.it).toArray) (run_load_mid _ _ _ 34 _ rfl g 37 rfl (u8l hd.it) _ (Hdr.rit HO.out F4.out.1) Try.underlying34 rfl (by rw [u8l_len, HO.out.il]; kernel_rfl)) ?_
                  refine zP (.agg (u8l (List.replicate 16 0)).toArray) ?_
                  refine zQ (.bool true) (run_eq16 _ _ _ _ _ hd.it (List.replicate 16 0) true HO.out.il List.length_replicate rfl rfl rfl (by rw [decide_eq_true I1.out])) ?_
                  refine zP (.bool true) ?_
                  refine zP (.bool true) ?_
                  refine zP (.bool true) ?_
                  go_upto_region 11 with (fail)
                  refine region_held_all (fun X => Blk X g 37 hd.L.toArray ∧ Below w.heap.size w X) (by kernel_rfl) (by kernel_rfl) (by exact ⟨F4.out.1.below (Below.drew (Below.refl _ _)), F4.out.2.trans (Below.drew (Below.refl _ _))⟩) ?_
                  refine zH (.bool false) (fun w h => heldRun_value (by kernel_rfl) h) ?_
                  refine zH (.bool false) (fun w h => heldRun_value (by kernel_rfl) h) ?_
                  refine zJ ?_
                  refine zH (.bool false) (fun w h => heldRun_value (by kernel_rfl) h) ?_
                  refine zH (.bool false) (fun w h => heldRun_value (by kernel_rfl) h) ?_
                  refine zJ ?_
                  refine zH (.bool false) (fun w h => heldRun_value (by kernel_rfl) h) ?_
                  refine zH (.bool false) (fun w h => heldRun_value (by kernel_rfl) h) ?_
                  refine zJ ?_
                  refine zJ ?_
                  refine zJ ?_
                  refine zJ ?_
                  refine zJ ?_
                  refine zJ ?_
                  refine zJ ?_
                  refine zJ ?_
                  refine zJ ?_
                  refine zJ ?_
                  refine zH (.bool false) (fun w h => heldRun_value (by kernel_rfl) h) ?_
                  refine zH (.bool false) (fun w h => heldRun_value (by kernel_rfl) h) ?_
                  refine wpHeld_nil ?_
                  intro Y h
                  have F5 := Lib.hid h
                  clear h F4
                  go_wp2_with fail
                  go_ret
                  exact ⟨false, rfl, ⟨fun q => (by cases q), fun q => absurd q (fun q => by have := Z1.out; have := q.sz; unfold bkt at this; omega)⟩, F5.out.2⟩
                 ·have I1 := Lib.hid c0
                  clear c0
                  go_upto_region 10 with (fail)
                  refine wp_region_lit ?_
                  refine zP (.pointer (some ⟨g, 35, none⟩)) ?_
                  refine zQ (.bool true) (run_load_one _ _ _ 4 _ _ rfl (g) (35) rfl (hcell F4.out.1 ((Hdr.c35 HO.out).trans (by rw [HC.out]))) (by kernel_rfl)) ?_
                  refine zP (.bool false) ?_
                  refine zP (.bool false) ?_
                  refine zP (.pointer (some ⟨g, 53, none⟩)) ?_
                  refine zQ (.slice hd.ta hd.tn hd.tc) (run_load_one _ _ _ 35 _ _ rfl (g) (53) rfl (hcell F4.out.1 (Hdr.c53 HO.out)) (by kernel_rfl)) ?_
                  refine zP (.int .i64 (hd.tn : Int)) ?_
                  refine zQ (.bool true) (run_eqi Try.underlying3 rfl rfl rfl (by have := I2.out; rw [decide_eq_true_eq]; omega)) ?_
                  refine zP (.bool true) ?_
                  refine zP (.pointer (some ⟨g, 37, none⟩)) ?_
                  refine zQ (.agg (u8l hd.it).toArray) (run_load_mid _ _ _ 34 _ rfl g 37 rfl (u8l hd.it) _ (Hdr.rit HO.out F4.out.1) Try.underlying34 rfl (by rw [u8l_len, HO.out.il]; kernel_rfl)) ?_
                  refine zP (.agg (u8l (List.replicate 16 0)).toArray) ?_
                  refine zQ (.bool false) (run_eq16 _ _ _ _ _ hd.it (List.replicate 16 0) false HO.out.il List.length_replicate rfl rfl rfl (by rw [decide_eq_false I1.out])) ?_
                  refine zP (.bool false) ?_
                  refine zP (.bool false) ?_
                  refine zP (.bool false) ?_
                  go_upto_region 11 with (fail)
                  refine region_held_all (fun X => Blk X g 37 hd.L.toArray ∧ Below w.heap.size w X) (by kernel_rfl) (by kernel_rfl) (by exact ⟨F4.out.1.below (Below.drew (Below.refl _ _)), F4.out.2.trans (Below.drew (Below.refl _ _))⟩) ?_
                  refine zH (.bool false) (fun w h => heldRun_value (by kernel_rfl) h) ?_
                  refine zH (.bool false) (fun w h => heldRun_value (by kernel_rfl) h) ?_
                  refine zJ ?_
                  refine zH (.bool false) (fun w h => heldRun_value (by kernel_rfl) h) ?_
                  refine zH (.bool false) (fun w h => heldRun_value (by kernel_rfl) h) ?_
                  refine zJ ?_
                  refine zH (.bool false) (fun w h => heldRun_value (by kernel_rfl) h) ?_
                  refine zH (.bool false) (fun w h => heldRun_value (by kernel_rfl) h) ?_
                  refine zJ ?_
                  refine zJ ?_
                  refine zJ ?_
                  refine zJ ?_
                  refine zJ ?_
                  refine zJ ?_
                  refine zJ ?_
                  refine zJ ?_
                  refine zJ ?_
                  refine zJ ?_
                  refine zH (.bool false) (fun w h => heldRun_value (by kernel_rfl) h) ?_
                  refine zH (.bool false) (fun w h => heldRun_value (by kernel_rfl) h) ?_
                  refine wpHeld_nil ?_
                  intro Y h
                  have F5 := Lib.hid h
                  clear h F4
                  go_wp2_with fail
                  go_ret
                  exact ⟨false, rfl, ⟨fun q => (by cases q), fun q => absurd q (fun q => by have := Z1.out; have := q.sz; unfold bkt at this; omega)⟩, F5.out.2⟩
                ·have I2 := Lib.hid c0
                 clear c0
                 go_upto_region 10 with (fail)
                 refine wp_region_lit ?_
                 refine zP (.pointer (some ⟨g, 35, none⟩)) ?_
                 refine zQ (.bool true) (run_load_one _ _ _ 4 _ _ rfl (g) (35) rfl (hcell F4.out.1 ((Hdr.c35 HO.out).trans (by rw [HC.out]))) (by kernel_rfl)) ?_
                 refine zP (.bool false) ?_
                 refine zP (.bool false) ?_
                 refine zP (.pointer (some ⟨g, 53, none⟩)) ?_
                 refine zQ (.slice hd.ta hd.tn hd.tc) (run_load_one _ _ _ 35 _ _ rfl (g) (53) rfl (hcell F4.out.1 (Hdr.c53 HO.out)) (by kernel_rfl)) ?_
                 refine zP (.int .i64 (hd.tn : Int)) ?_
                 refine zQ (.bool false) (run_eqi Try.underlying3 rfl rfl rfl (by have := I2.out; rw [decide_eq_false_iff_not]; omega)) ?_
                 refine zP (.bool false) ?_
                 refine zG ?_
                 refine zG ?_
                 refine zG ?_
                 refine zG ?_
                 refine zP (.bool false) ?_
                 refine zP (.bool false) ?_
                 refine zP (.bool false) ?_
                 go_upto_region 11 with (fail)
                 refine region_held_all (fun X => Blk X g 37 hd.L.toArray ∧ Below w.heap.size w X) (by kernel_rfl) (by kernel_rfl) (by exact ⟨F4.out.1.below (Below.drew (Below.refl _ _)), F4.out.2.trans (Below.drew (Below.refl _ _))⟩) ?_
                 refine zH (.bool false) (fun w h => heldRun_value (by kernel_rfl) h) ?_
                 refine zH (.bool false) (fun w h => heldRun_value (by kernel_rfl) h) ?_
                 refine zJ ?_
                 refine zH (.bool false) (fun w h => heldRun_value (by kernel_rfl) h) ?_
                 refine zH (.bool false) (fun w h => heldRun_value (by kernel_rfl) h) ?_
                 refine zJ ?_
                 refine zH (.bool false) (fun w h => heldRun_value (by kernel_rfl) h) ?_
                 refine zH (.bool false) (fun w h => heldRun_value (by kernel_rfl) h) ?_
                 refine zJ ?_
                 refine zJ ?_
                 refine zJ ?_
                 refine zJ ?_
                 refine zJ ?_
                 refine zJ ?_
                 refine zJ ?_
                 refine zJ ?_
                 refine zJ ?_
                 refine zJ ?_
                 refine zH (.bool false) (fun w h => heldRun_value (by kernel_rfl) h) ?_
                 refine zH (.bool false) (fun w h => heldRun_value (by kernel_rfl) h) ?_
                 refine wpHeld_nil ?_
                 intro Y h
                 have F5 := Lib.hid h
                 clear h F4
                 go_wp2_with fail
                 go_ret
                 exact ⟨false, rfl, ⟨fun q => (by cases q), fun q => absurd q (fun q => by have := Z1.out; have := q.sz; unfold bkt at this; omega)⟩, F5.out.2⟩
end Go.Proofs.Ythkhlkiemldbaaa.K.Ha
