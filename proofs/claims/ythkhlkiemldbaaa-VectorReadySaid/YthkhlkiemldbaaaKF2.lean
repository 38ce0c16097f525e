/- Formed. -/
import Derived.Test.YthkhlkiemldbaaaKZ
import Derived.Test.YthkhlkiemldbaaaKF1
namespace Go.Proofs.Ythkhlkiemldbaaa.K.Ha
open Go Go.RowKit
set_option maxRecDepth 100000
theorem hcell {w : World} {g k : Nat} {h : Hdr} {v : Value} (b : Blk w g 37 h.L.toArray) (c : h.L[k]? = some v) : w.cell? ⟨g, k, none⟩ = some v := by
 rw [b.cell, List.getElem?_toArray, c]
theorem wrap_u64 (x : Int) (h0 : 0 ≤ x) (h1 : x < 18446744073709551616) : IntKind.u64.wrap x = x := by simp [IntKind.wrap, IntKind.bits, IntKind.signed]; omega
theorem wrap_bkt {z : Int} (h : -9223372036854775808 ≤ z ∧ z ≤ 9223372036854775807) : bkt (IntKind.i64.wrap (z - 16)) ↔ bkt (z - 16) := by
 rw [IntKind.wrap_i64]
 unfold bkt
 omega
theorem run_idx23 (a : Act) (o : Oper) (w : World) (x i : Operand) (g b k : Nat) (ho : o.op = .indexAddr 23 x i) (hx : a.eval x = .pointer (some ⟨g, b, none⟩)) (hi : a.eval i = .int .i64 (k : Int)) (hk : k < 6) : (execOp a.eval o).run Try.prog w = .ok (.value (.pointer (some ⟨g, b + k, none⟩))) w := by
 have j0 : (0 : Int) ≤ (k : Int) := by omega
 have j6 : (k : Int) < 6 := by omega
 unfold execOp
 simp only [ho, hx, hi]
 go_simp
def FmPost (hd : Hdr) (T : List (List Int)) (w : World) (e : Ending) (w' : World) : Prop := ∃ z : Bool, e = .returned (.bool z) ∧ (z = true ↔ FmP hd T) ∧ Below w.heap.size w w'
attribute [local irreducible] wpList
set_option maxHeartbeats 16000000 in
theorem formed_any (w : World) (hd : Hdr) (ho : HOk hd) (T : List (List Int)) (ht : Toks w hd.ta hd.tn T) :
  Calls Try.prog 22 #[.agg hd.L.toArray] w fun e w' => FmPost hd T w e w' := by
 have HO := Lib.hid ho
 have HT := Lib.hid ht
 clear ho ht
 go_enter Try.func22, Try.ntmps22
 obtain ⟨w1, hw1⟩ : ∃ V, V = w.alloc (.cells hd.L.toArray 37) := ⟨_, rfl⟩
 obtain ⟨g, hg⟩ : ∃ q, w.heap.size = q := ⟨_, rfl⟩
 have A0 : Below w.heap.size w w1 := by rw [hw1]; exact (Below.refl _ _).alloc (Nat.le_refl _) _
 have F1 : Hid (Blk w1 g 37 hd.L.toArray ∧ Below w.heap.size w w1 ∧ Toks w1 hd.ta hd.tn T) := Lib.hid ⟨by rw [hw1, ← hg]; exact Blk.new _ _ _, A0, HT.out.keep A0⟩
 clear A0
 go_upto_region 0 with (fail)
 refine wp_region_lit ?_
 refine zV (.pointer (some ⟨g, 0, none⟩)) (w1) (by rw [← hg]; exact run_boxh _ _ _ _ _ hd HO.out rfl rfl hw1) ?_
 refine zP (.bool false) ?_
 clear hw1 hg
 by_cases c0 : hd.wr < 1
 ·have W1 := Lib.hid c0
  clear c0
  go_upto_region 1 with (fail)
  refine wp_region_lit ?_
  refine zP (.pointer (some ⟨g, 0, none⟩)) ?_
  refine zQ (.int .i64 hd.wr) (run_load_one _ _ _ 3 _ _ rfl (g) (0) rfl (hcell F1.out.1 (Hdr.c0)) (by kernel_rfl)) ?_
  refine zQ (.bool true) (run_lti Try.underlying3 rfl rfl rfl (by have := W1.out; rw [decide_eq_true_eq]; omega)) ?_
  refine zP (.bool true) ?_
  refine zG ?_
  refine zG ?_
  refine zG ?_
  refine zP (.bool true) ?_
  refine zP (.bool true) ?_
  go_upto_region 2 with (fail)
  refine wp_region_lit ?_
  refine zP (.bool false) ?_
  go_wp2_with fail
  go_ret
  exact ⟨false, rfl, ⟨fun q => (by cases q), fun q => absurd q (fun q => by have := W1.out; have := q.wr; omega)⟩, F1.out.2.1⟩
 ·have W1 := Lib.hid c0
  clear c0
  by_cases c0 : 6 < hd.wr
  ·have W2 := Lib.hid c0
   clear c0
   go_upto_region 1 with (fail)
   refine wp_region_lit ?_
   refine zP (.pointer (some ⟨g, 0, none⟩)) ?_
   refine zQ (.int .i64 hd.wr) (run_load_one _ _ _ 3 _ _ rfl (g) (0) rfl (hcell F1.out.1 (Hdr.c0)) (by kernel_rfl)) ?_
   refine zQ (.bool false) (run_lti Try.underlying3 rfl rfl rfl (by have := W1.out; rw [decide_eq_false_iff_not]; omega)) ?_
   refine zP (.bool false) ?_
   refine zP (.pointer (some ⟨g, 0, none⟩)) ?_
   refine zQ (.int .i64 hd.wr) (run_load_one _ _ _ 3 _ _ rfl (g) (0) rfl (hcell F1.out.1 (Hdr.c0)) (by kernel_rfl)) ?_
   refine zQ (.bool true) (run_gti Try.underlying3 rfl rfl rfl (by have := W2.out; rw [decide_eq_true_eq]; omega)) ?_
   refine zP (.bool true) ?_
   refine zP (.bool true) ?_
   go_upto_region 2 with (fail)
   refine wp_region_lit ?_
   refine zP (.bool false) ?_
   go_wp2_with fail
   go_ret
   exact ⟨false, rfl, ⟨fun q => (by cases q), fun q => absurd q (fun q => by have := W2.out; have := q.wr; omega)⟩, F1.out.2.1⟩
  ·have W2 := Lib.hid c0
   clear c0
   go_upto_region 1 with (fail)
   refine wp_region_lit ?_
   refine zP (.pointer (some ⟨g, 0, none⟩)) ?_
   refine zQ (.int .i64 hd.wr) (run_load_one _ _ _ 3 _ _ rfl (g) (0) rfl (hcell F1.out.1 (Hdr.c0)) (by kernel_rfl)) ?_
   refine zQ (.bool false) (run_lti Try.underlying3 rfl rfl rfl (by have := W1.out; rw [decide_eq_false_iff_not]; omega)) ?_
   refine zP (.bool false) ?_
   refine zP (.pointer (some ⟨g, 0, none⟩)) ?_
   refine zQ (.int .i64 hd.wr) (run_load_one _ _ _ 3 _ _ rfl (g) (0) rfl (hcell F1.out.1 (Hdr.c0)) (by kernel_rfl)) ?_
   refine zQ (.bool false) (run_gti Try.underlying3 rfl rfl rfl (by have := W2.out; rw [decide_eq_false_iff_not]; omega)) ?_
   refine zP (.bool false) ?_
   refine zP (.bool false) ?_
   by_cases c0 : hd.sq < 1
   ·have S1 := Lib.hid c0
    clear c0
    go_upto_region 3 with (fail)
    refine wp_region_lit ?_
    refine zP (.pointer (some ⟨g, 1, none⟩)) ?_
    refine zQ (.int .u64 hd.sq) (run_load_one _ _ _ 22 _ _ rfl (g) (1) rfl (hcell F1.out.1 (Hdr.c1)) (by kernel_rfl)) ?_
    refine zQ (.bool true) (run_lti Try.underlying22 rfl rfl rfl (by have := S1.out; rw [decide_eq_true_eq]; omega)) ?_
    refine zP (.bool true) ?_
    refine zG ?_
    refine zG ?_
    refine zG ?_
    refine zP (.bool true) ?_
    refine zP (.bool true) ?_
    go_upto_region 4 with (fail)
    refine wp_region_lit ?_
    refine zP (.bool false) ?_
    go_wp2_with fail
    go_ret
    exact ⟨false, rfl, ⟨fun q => (by cases q), fun q => absurd q (fun q => by have := S1.out; have := q.sq; omega)⟩, F1.out.2.1⟩
   ·have S1 := Lib.hid c0
    clear c0
    by_cases c0 : 1048576 < hd.sq
    ·have S2 := Lib.hid c0
     clear c0
     go_upto_region 3 with (fail)
     refine wp_region_lit ?_
     refine zP (.pointer (some ⟨g, 1, none⟩)) ?_
     refine zQ (.int .u64 hd.sq) (run_load_one _ _ _ 22 _ _ rfl (g) (1) rfl (hcell F1.out.1 (Hdr.c1)) (by kernel_rfl)) ?_
     refine zQ (.bool false) (run_lti Try.underlying22 rfl rfl rfl (by have := S1.out; rw [decide_eq_false_iff_not]; omega)) ?_
     refine zP (.bool false) ?_
     refine zP (.pointer (some ⟨g, 1, none⟩)) ?_
     refine zQ (.int .u64 hd.sq) (run_load_one _ _ _ 22 _ _ rfl (g) (1) rfl (hcell F1.out.1 (Hdr.c1)) (by kernel_rfl)) ?_
     refine zQ (.bool true) (run_gti Try.underlying22 rfl rfl rfl (by have := S2.out; rw [decide_eq_true_eq]; omega)) ?_
     refine zP (.bool true) ?_
     refine zP (.bool true) ?_
     go_upto_region 4 with (fail)
     refine wp_region_lit ?_
     refine zP (.bool false) ?_
     go_wp2_with fail
     go_ret
     exact ⟨false, rfl, ⟨fun q => (by cases q), fun q => absurd q (fun q => by have := S2.out; have := q.sq; omega)⟩, F1.out.2.1⟩
    ·have S2 := Lib.hid c0
     clear c0
     go_upto_region 3 with (fail)
     refine wp_region_lit ?_
     refine zP (.pointer (some ⟨g, 1, none⟩)) ?_
     refine zQ (.int .u64 hd.sq) (run_load_one _ _ _ 22 _ _ rfl (g) (1) rfl (hcell F1.out.1 (Hdr.c1)) (by kernel_rfl)) ?_
     refine zQ (.bool false) (run_lti Try.underlying22 rfl rfl rfl (by have := S1.out; rw [decide_eq_false_iff_not]; omega)) ?_
     refine zP (.bool false) ?_
     refine zP (.pointer (some ⟨g, 1, none⟩)) ?_
     refine zQ (.int .u64 hd.sq) (run_load_one _ _ _ 22 _ _ rfl (g) (1) rfl (hcell F1.out.1 (Hdr.c1)) (by kernel_rfl)) ?_
     refine zQ (.bool false) (run_gti Try.underlying22 rfl rfl rfl (by have := S2.out; rw [decide_eq_false_iff_not]; omega)) ?_
     refine zP (.bool false) ?_
     refine zP (.bool false) ?_
     by_cases c0 : hd.sq = 1
     ·have Q1 := Lib.hid c0
      clear c0
      by_cases c0 : hd.pv = (List.replicate 32 0)
      ·have Q2 := Lib.hid c0
       clear c0
       go_upto_region 5 with (fail)
       refine wp_region_lit ?_
       refine zP (.pointer (some ⟨g, 1, none⟩)) ?_
       refine zQ (.int .u64 hd.sq) (run_load_one _ _ _ 22 _ _ rfl (g) (1) rfl (hcell F1.out.1 (Hdr.c1)) (by kernel_rfl)) ?_
       refine zQ (.bool true) (run_eqi Try.underlying22 rfl rfl rfl (by have := Q1.out; rw [decide_eq_true_eq]; omega)) ?_
       refine zP (.bool true) ?_
       refine zP (.pointer (some ⟨g, 2, none⟩)) ?_
       refine zQ (.agg (u8l hd.pv).toArray) (run_load_mid _ _ _ 32 _ rfl g 2 rfl (u8l hd.pv) _ (Hdr.rpv HO.out F1.out.1) Try.underlying32 rfl (by rw [u8l_len, HO.out.pl]; kernel_rfl)) ?_
       refine zP (.agg (u8l (List.replicate 32 0)).toArray) ?_
       refine zQ (.bool false) (run_ne32 _ _ _ _ _ hd.pv (List.replicate 32 0) false HO.out.pl List.length_replicate rfl rfl rfl (by rw [decide_eq_true Q2.out]; rfl)) ?_
       refine zP (.bool false) ?_
       refine zP (.bool false) ?_
       by_cases c0 : hd.ep < 0
       ·have E1 := Lib.hid c0
        clear c0
        go_upto_region 7 with (fail)
        refine wp_region_lit ?_
        refine zP (.pointer (some ⟨g, 34, none⟩)) ?_
        refine zQ (.int .i64 hd.ep) (run_load_one _ _ _ 3 _ _ rfl (g) (34) rfl (hcell F1.out.1 (Hdr.c34 HO.out)) (by kernel_rfl)) ?_
        refine zQ (.bool true) (run_lti Try.underlying3 rfl rfl rfl (by have := E1.out; rw [decide_eq_true_eq]; omega)) ?_
        refine zP (.bool true) ?_
        refine zG ?_
        refine zG ?_
        refine zG ?_
        refine zP (.bool true) ?_
        refine zP (.bool true) ?_
        refine zG ?_
        refine zG ?_
        refine zG ?_
        refine zP (.bool true) ?_
        refine zP (.bool true) ?_
        go_upto_region 8 with (fail)
        refine wp_region_lit ?_
        refine zP (.bool false) ?_
        go_wp2_with fail
        go_ret
        exact ⟨false, rfl, ⟨fun q => (by cases q), fun q => absurd q (fun q => by have := E1.out; have := q.ep; omega)⟩, F1.out.2.1⟩
       ·have E1 := Lib.hid c0
        clear c0
        by_cases c0 : 255 < hd.ep
        ·have E2 := Lib.hid c0
         clear c0
         go_upto_region 7 with (fail)
         refine wp_region_lit ?_
         refine zP (.pointer (some ⟨g, 34, none⟩)) ?_
         refine zQ (.int .i64 hd.ep) (run_load_one _ _ _ 3 _ _ rfl (g) (34) rfl (hcell F1.out.1 (Hdr.c34 HO.out)) (by kernel_rfl)) ?_
         refine zQ (.bool false) (run_lti Try.underlying3 rfl rfl rfl (by have := E1.out; rw [decide_eq_false_iff_not]; omega)) ?_
         refine zP (.bool false) ?_
         refine zP (.pointer (some ⟨g, 34, none⟩)) ?_
         refine zQ (.int .i64 hd.ep) (run_load_one _ _ _ 3 _ _ rfl (g) (34) rfl (hcell F1.out.1 (Hdr.c34 HO.out)) (by kernel_rfl)) ?_
         refine zQ (.bool true) (run_gti Try.underlying3 rfl rfl rfl (by have := E2.out; rw [decide_eq_true_eq]; omega)) ?_
         refine zP (.bool true) ?_
         refine zP (.bool true) ?_
         refine zG ?_
         refine zG ?_
         refine zG ?_
         refine zP (.bool true) ?_
         refine zP (.bool true) ?_
         go_upto_region 8 with (fail)
         refine wp_region_lit ?_
         refine zP (.bool false) ?_
         go_wp2_with fail
         go_ret
         exact ⟨false, rfl, ⟨fun q => (by cases q), fun q => absurd q (fun q => by have := E2.out; have := q.ep; omega)⟩, F1.out.2.1⟩
        ·have E2 := Lib.hid c0
         clear c0
         by_cases c0 : 1099511627776 < hd.tm
         ·have E3 := Lib.hid c0
          clear c0
          go_upto_region 7 with (fail)
          refine wp_region_lit ?_
          refine zP (.pointer (some ⟨g, 34, none⟩)) ?_
          refine zQ (.int .i64 hd.ep) (run_load_one _ _ _ 3 _ _ rfl (g) (34) rfl (hcell F1.out.1 (Hdr.c34 HO.out)) (by kernel_rfl)) ?_
          refine zQ (.bool false) (run_lti Try.underlying3 rfl rfl rfl (by have := E1.out; rw [decide_eq_false_iff_not]; omega)) ?_
          refine zP (.bool false) ?_
          refine zP (.pointer (some ⟨g, 34, none⟩)) ?_
          refine zQ (.int .i64 hd.ep) (run_load_one _ _ _ 3 _ _ rfl (g) (34) rfl (hcell F1.out.1 (Hdr.c34 HO.out)) (by kernel_rfl)) ?_
          refine zQ (.bool false) (run_gti Try.underlying3 rfl rfl rfl (by have := E2.out; rw [decide_eq_false_iff_not]; omega)) ?_
          refine zP (.bool false) ?_
          refine zP (.bool false) ?_
          refine zP (.pointer (some ⟨g, 36, none⟩)) ?_
          refine zQ (.int .u64 hd.tm) (run_load_one _ _ _ 22 _ _ rfl (g) (36) rfl (hcell F1.out.1 (Hdr.c36 HO.out)) (by kernel_rfl)) ?_
          refine zQ (.bool true) (run_gti Try.underlying22 rfl rfl rfl (by have := E3.out; rw [decide_eq_true_eq]; omega)) ?_
          refine zP (.bool true) ?_
          refine zP (.bool true) ?_
          go_upto_region 8 with (fail)
          refine wp_region_lit ?_
          refine zP (.bool false) ?_
          go_wp2_with fail
          go_ret
          exact ⟨false, rfl, ⟨fun q => (by cases q), fun q => absurd q (fun q => by have := E3.out; have := q.tm; omega)⟩, F1.out.2.1⟩
         ·have E3 := Lib.hid c0
          clear c0
          go_upto_region 7 with (fail)
          refine wp_region_lit ?_
          refine zP (.pointer (some ⟨g, 34, none⟩)) ?_
          refine zQ (.int .i64 hd.ep) (run_load_one _ _ _ 3 _ _ rfl (g) (34) rfl (hcell F1.out.1 (Hdr.c34 HO.out)) (by kernel_rfl)) ?_
          refine zQ (.bool false) (run_lti Try.underlying3 rfl rfl rfl (by have := E1.out; rw [decide_eq_false_iff_not]; omega)) ?_
          refine zP (.bool false) ?_
          refine zP (.pointer (some ⟨g, 34, none⟩)) ?_
          refine zQ (.int .i64 hd.ep) (run_load_one _ _ _ 3 _ _ rfl (g) (34) rfl (hcell F1.out.1 (Hdr.c34 HO.out)) (by kernel_rfl)) ?_
          refine zQ (.bool false) (run_gti Try.underlying3 rfl rfl rfl (by have := E2.out; rw [decide_eq_false_iff_not]; omega)) ?_
          refine zP (.bool false) ?_
          refine zP (.bool false) ?_
          refine zP (.pointer (some ⟨g, 36, none⟩)) ?_
          refine zQ (.int .u64 hd.tm) (run_load_one _ _ _ 22 _ _ rfl (g) (36) rfl (hcell F1.out.1 (Hdr.c36 HO.out)) (by kernel_rfl)) ?_
          refine zQ (.bool false) (run_gti Try.underlying22 rfl rfl rfl (by have := E3.out; rw [decide_eq_false_iff_not]; omega)) ?_
          refine zP (.bool false) ?_
          refine zP (.bool false) ?_
          obtain ⟨cz, hcz⟩ : ∃ z, hd.ct = z := ⟨_, rfl⟩
          have HC := Lib.hid hcz
          clear hcz
          cases cz
          ·go_upto_region 9 with (fail)
           refine wp_region_lit ?_
           refine zP (.pointer (some ⟨g, 35, none⟩)) ?_
           refine zQ (.bool false) (run_load_one _ _ _ 4 _ _ rfl (g) (35) rfl (hcell F1.out.1 ((Hdr.c35 HO.out).trans (by rw [HC.out]))) (by kernel_rfl)) ?_
           refine zP (.bool false) ?_
           refine zG ?_
           refine zG ?_
           refine zG ?_
           refine zG ?_
           refine zG ?_
           refine zG ?_
           refine zG ?_
           refine zG ?_
           refine zG ?_
           refine zG ?_
           refine zP (.bool false) ?_
           refine zP (.bool false) ?_
           by_cases c0 : 8 < hd.tn
           ·have T1 := Lib.hid c0
            clear c0
            go_upto_region 11 with (fail)
            refine wp_region_lit ?_
            refine zP (.pointer (some ⟨g, 53, none⟩)) ?_
            refine zQ (.slice hd.ta hd.tn hd.tc) (run_load_one _ _ _ 35 _ _ rfl (g) (53) rfl (hcell F1.out.1 (Hdr.c53 HO.out)) (by kernel_rfl)) ?_
            refine zP (.int .i64 (hd.tn : Int)) ?_
            refine zQ (.bool true) (run_gti Try.underlying3 rfl rfl rfl (by have := T1.out; rw [decide_eq_true_eq]; omega)) ?_
            refine zP (.bool true) ?_
            refine zG ?_
            refine zG ?_
            refine zG ?_
            refine zG ?_
            refine zP (.bool true) ?_
            refine zP (.bool true) ?_
            go_upto_region 12 with (fail)
            refine wp_region_lit ?_
            refine zP (.bool false) ?_
            go_wp2_with fail
            go_ret
            exact ⟨false, rfl, ⟨fun q => (by cases q), fun q => absurd q (fun q => by have := T1.out; have := q.tn; omega)⟩, F1.out.2.1⟩
           ·have T1 := Lib.hid c0
            clear c0
            go_upto_region 11 with (fail)
            refine wp_region_lit ?_
            refine zP (.pointer (some ⟨g, 53, none⟩)) ?_
            refine zQ (.slice hd.ta hd.tn hd.tc) (run_load_one _ _ _ 35 _ _ rfl (g) (53) rfl (hcell F1.out.1 (Hdr.c53 HO.out)) (by kernel_rfl)) ?_
            refine zP (.int .i64 (hd.tn : Int)) ?_
            refine zQ (.bool false) (run_gti Try.underlying3 rfl rfl rfl (by have := T1.out; rw [decide_eq_false_iff_not]; omega)) ?_
            refine zP (.bool false) ?_
            refine zP (.pointer (some ⟨g, 53, none⟩)) ?_
            refine zQ (.slice hd.ta hd.tn hd.tc) (run_load_one _ _ _ 35 _ _ rfl (g) (53) rfl (hcell F1.out.1 (Hdr.c53 HO.out)) (by kernel_rfl)) ?_
            refine wpL_call 29 #[.slice hd.ta hd.tn hd.tc] rfl (by kernel_rfl) ((sorted_any w1 hd.ta hd.tn hd.tc T F1.out.2.2).mono ?_)
            rintro e w2 ⟨z, rfl, hz, hb⟩
            have F2 : Hid (Blk w2 g 37 hd.L.toArray ∧ Below w.heap.size w w2) := Lib.hid ⟨F1.out.1.below hb, F1.out.2.1.trans (hb.mono F1.out.2.1.size)⟩
            have SZ := Lib.hid hz
            clear hz hb
            refine ⟨_, rfl, ?_⟩
            simp only [Act.put, List.setIfInBounds_toArray, List.set_cons_zero, List.set_cons_succ]
            cases z
            ·refine zP (.bool true) ?_
             refine zP (.bool true) ?_
             refine zP (.bool true) ?_
             unfold wpList
             go_upto_region 12 with (fail)
             refine wp_region_lit ?_
             refine zP (.bool false) ?_
             go_wp2_with fail
             go_ret
             exact ⟨false, rfl, ⟨fun q => (by cases q), fun q => absurd (SZ.out.2 q.so) (by simp)⟩, F2.out.2⟩
            ·refine zP (.bool false) ?_
             refine zP (.bool false) ?_
             refine zP (.bool false) ?_
             unfold wpList
             obtain ⟨kw, hkw⟩ : ∃ k : Nat, hd.wr - 1 = (k : Int) := ⟨(hd.wr - 1).toNat, by have := W1.out; omega⟩
             have KW : Hid (hd.wr - 1 = (kw : Int) ∧ kw < 6 ∧ (hd.wr - 1).toNat = kw) := Lib.hid ⟨hkw, by have := W2.out; omega, by omega⟩
             clear hkw
             obtain ⟨kv, hkv⟩ : ∃ q, hd.kn.getD kw 0 = q := ⟨_, rfl⟩
             have KV := Lib.hid hkv
             clear hkv
             obtain ⟨mm, hmm⟩ : ∃ q, mxN (fun k => hd.kn.getD k 0) 5 = q := ⟨_, rfl⟩
             have MM := Lib.hid hmm
             clear hmm
             by_cases c0 : kv = hd.sq - 1
             ·have K1 := Lib.hid c0
              clear c0
              by_cases c0 : 1048576 < mm
              ·have K2 := Lib.hid c0
               clear c0
               go_upto_region 13 with (fail)
               refine region_held_all (fun X => Blk X g 37 hd.L.toArray ∧ Below w.heap.size w X) (by kernel_rfl) (by kernel_rfl) (by exact ⟨F2.out.1.below (Below.drew (Below.refl _ _)), F2.out.2.trans (Below.drew (Below.refl _ _))⟩) ?_
               refine zH (.pointer (some ⟨g, 0, none⟩)) (fun w h => heldRun_value (by kernel_rfl) h) ?_
               refine zH (.int .i64 hd.wr) (fun w h => heldRun_value (run_load_one _ _ _ 3 _ _ rfl (g) (0) rfl (hcell h.1 (Hdr.c0)) (by kernel_rfl)) h) ?_
               refine zH (.int .i64 (kw : Int)) (fun w h => heldRun_value (run_subi Try.underlying3 rfl rfl rfl _ (by rw [KW.out.1]; have := KW.out.2.1; exact wrap_in _ (by omega) (by omega))) h) ?_
               refine zH (.pointer (some ⟨g, 54, none⟩)) (fun w h => heldRun_value (by kernel_rfl) h) ?_
               refine zH (.pointer (some ⟨g, 54 + kw, none⟩)) (fun w h => heldRun_value (run_idx23 _ _ _ _ _ g 54 kw rfl rfl rfl KW.out.2.1) h) ?_
               refine zH (.int .u64 kv) (fun w h => heldRun_value (run_load_one _ _ _ 22 _ _ rfl (g) (54 + kw) rfl ((hcell h.1 (Hdr.ck HO.out kw KW.out.2.1)).trans (by rw [KV.out])) (by kernel_rfl)) h) ?_
               refine zH (.pointer (some ⟨g, 1, none⟩)) (fun w h => heldRun_value (by kernel_rfl) h) ?_
               refine zH (.int .u64 hd.sq) (fun w h => heldRun_value (run_load_one _ _ _ 22 _ _ rfl (g) (1) rfl (hcell h.1 (Hdr.c1)) (by kernel_rfl)) h) ?_
               refine zH (.int .u64 (hd.sq - 1)) (fun w h => heldRun_value (run_subi Try.underlying22 rfl rfl rfl _ (wrap_u64 _ (by have := S1.out; omega) (by have := HO.out.sb; omega))) h) ?_
               refine zH (.bool false) (fun w h => heldRun_value (run_nei Try.underlying22 rfl rfl rfl (by have := K1.out; rw [decide_eq_false_iff_not]; omega)) h) ?_
               refine zH (.bool false) (fun w h => heldRun_value (by kernel_rfl) h) ?_
               refine zH (.pointer (some ⟨g, 54, none⟩)) (fun w h => heldRun_value (by kernel_rfl) h) ?_
               refine zH (.slice (some ⟨g, 54, none⟩) 6 6) (fun w h => heldRun_value (by kernel_rfl) h) ?_
               refine wpHeld_call (.int .u64 mm) 30 #[.slice (some ⟨g, 54, none⟩) 6 6] rfl (fun w => by kernel_rfl) (fun X h => (max_any X g 54 (fun k => hd.kn.getD k 0) (fun k hk => hcell h.1 (Hdr.ck HO.out k hk))).mono fun e V he => ⟨by rw [he.1, MM.out], he.2.symm ▸ h⟩) ?_
               simp only [Act.put, List.setIfInBounds_toArray, List.set_cons_zero, List.set_cons_succ]
               refine zH (.bool true) (fun w h => heldRun_value (run_gti Try.underlying22 rfl rfl rfl (by have := K2.out; rw [decide_eq_true_eq]; omega)) h) ?_
               refine zH (.bool true) (fun w h => heldRun_value (by kernel_rfl) h) ?_
               refine zH (.bool true) (fun w h => heldRun_value (by kernel_rfl) h) ?_
               refine wpHeld_nil ?_
               intro X h
               have F3 := Lib.hid h
               clear h F2
               go_upto_region 14 with (fail)
               refine wp_region_lit ?_
               refine zP (.bool false) ?_
               go_wp2_with fail
               go_ret
               exact ⟨false, rfl, ⟨fun q => (by cases q), fun q => absurd q (fun q => by have r := (mxN_le (fun k => hd.kn.getD k 0) 1048576 5).2 (fun j hj => q.km j (by omega)); rw [MM.out] at r; have := K2.out; omega)⟩, F3.out.2⟩
              ·have K2 := Lib.hid c0
               clear c0
               go_upto_region 13 with (fail)
               refine region_held_all (fun X => Blk X g 37 hd.L.toArray ∧ Below w.heap.size w X) (by kernel_rfl) (by kernel_rfl) (by exact ⟨F2.out.1.below (Below.drew (Below.refl _ _)), F2.out.2.trans (Below.drew (Below.refl _ _))⟩) ?_
               refine zH (.pointer (some ⟨g, 0, none⟩)) (fun w h => heldRun_value (by kernel_rfl) h) ?_
               refine zH (.int .i64 hd.wr) (fun w h => heldRun_value (run_load_one _ _ _ 3 _ _ rfl (g) (0) rfl (hcell h.1 (Hdr.c0)) (by kernel_rfl)) h) ?_
               refine zH (.int .i64 (kw : Int)) (fun w h => heldRun_value (run_subi Try.underlying3 rfl rfl rfl _ (by rw [KW.out.1]; have := KW.out.2.1; exact wrap_in _ (by omega) (by omega))) h) ?_
               refine zH (.pointer (some ⟨g, 54, none⟩)) (fun w h => heldRun_value (by kernel_rfl) h) ?_
               refine zH (.pointer (some ⟨g, 54 + kw, none⟩)) (fun w h => heldRun_value (run_idx23 _ _ _ _ _ g 54 kw rfl rfl rfl KW.out.2.1) h) ?_
               refine zH (.int .u64 kv) (fun w h => heldRun_value (run_load_one _ _ _ 22 _ _ rfl (g) (54 + kw) rfl ((hcell h.1 (Hdr.ck HO.out kw KW.out.2.1)).trans (by rw [KV.out])) (by kernel_rfl)) h) ?_
               refine zH (.pointer (some ⟨g, 1, none⟩)) (fun w h => heldRun_value (by kernel_rfl) h) ?_
               refine zH (.int .u64 hd.sq) (fun w h => heldRun_value (run_load_one _ _ _ 22 _ _ rfl (g) (1) rfl (hcell h.1 (Hdr.c1)) (by kernel_rfl)) h) ?_
               refine zH (.int .u64 (hd.sq - 1)) (fun w h => heldRun_value (run_subi Try.underlying22 rfl rfl rfl _ (wrap_u64 _ (by have := S1.out; omega) (by have := HO.out.sb; omega))) h) ?_
               refine zH (.bool false) (fun w h => heldRun_value (run_nei Try.underlying22 rfl rfl rfl (by have := K1.out; rw [decide_eq_false_iff_not]; omega)) h) ?_
               refine zH (.bool false) (fun w h => heldRun_value (by kernel_rfl) h) ?_
               refine zH (.pointer (some ⟨g, 54, none⟩)) (fun w h => heldRun_value (by kernel_rfl) h) ?_
               refine zH (.slice (some ⟨g, 54, none⟩) 6 6) (fun w h => heldRun_value (by kernel_rfl) h) ?_
               refine wpHeld_call (.int .u64 mm) 30 #[.slice (some ⟨g, 54, none⟩) 6 6] rfl (fun w => by kernel_rfl) (fun X h => (max_any X g 54 (fun k => hd.kn.getD k 0) (fun k hk => hcell h.1 (Hdr.ck HO.out k hk))).mono fun e V he => ⟨by rw [he.1, MM.out], he.2.symm ▸ h⟩) ?_
               simp only [Act.put, List.setIfInBounds_toArray, List.set_cons_zero, List.set_cons_succ]
               refine zH (.bool false) (fun w h => heldRun_value (run_gti Try.underlying22 rfl rfl rfl (by have := K2.out; rw [decide_eq_false_iff_not]; omega)) h) ?_
               refine zH (.bool false) (fun w h => heldRun_value (by kernel_rfl) h) ?_
               refine zH (.bool false) (fun w h => heldRun_value (by kernel_rfl) h) ?_
               refine wpHeld_nil ?_
               intro X h
               have F3 := Lib.hid h
               clear h F2
               obtain ⟨ns, hns⟩ : ∃ q, IntKind.i64.wrap (hd.sz - 16) = q := ⟨_, rfl⟩
               have NS := Lib.hid hns
               clear hns
               go_upto_region 15 with (fail)
               refine wp_region_lit ?_
               refine zP (.pointer (some ⟨g, 92, none⟩)) ?_
               refine zQ (.int .i64 hd.sz) (run_load_one _ _ _ 3 _ _ rfl (g) (92) rfl (hcell F3.out.1 (Hdr.c92 HO.out)) (by kernel_rfl)) ?_
               refine zQ (.int .i64 ns) (run_subi Try.underlying3 rfl rfl rfl _ (NS.out)) ?_
               refine wpL_call 31 #[.int .i64 ns] rfl (by kernel_rfl) ((is_any ns X).mono ?_)
               rintro e w9 ⟨z, rfl, hz, rfl⟩
               have HZ := Lib.hid hz
               clear hz
               refine ⟨_, rfl, ?_⟩
               simp only [Act.put, List.setIfInBounds_toArray, List.set_cons_zero, List.set_cons_succ]
               refine zP (.bool z) ?_
               unfold wpList
               go_wp2_with fail
               go_ret
               have ez : bkt ns ↔ bkt (hd.sz - 16) := by rw [← NS.out]; exact wrap_bkt HO.out.zb
               exact ⟨z, rfl, ⟨fun q => ⟨by have := W1.out; have := W2.out; omega, by have := S1.out; have := S2.out; omega, fun _ => Q2.out, by have := E1.out; have := E2.out; omega, by have := E3.out; omega, (fun q => by rw [HC.out] at q; cases q), by have := T1.out; omega, SZ.out.1 (by simp), by rw [KW.out.2.2, KV.out]; exact K1.out, fun j hj => (mxN_le (fun k => hd.kn.getD k 0) 1048576 5).1 (by rw [MM.out]; have := K2.out; omega) j (by omega), ez.1 (HZ.out.1 q)⟩, fun q => HZ.out.2 (ez.2 q.sz)⟩, F3.out.2⟩
             ·have K1 := Lib.hid c0
              clear c0
              go_upto_region 13 with (fail)
              refine region_held_all (fun X => Blk X g 37 hd.L.toArray ∧ Below w.heap.size w X) (by kernel_rfl) (by kernel_rfl) (by exact ⟨F2.out.1.below (Below.drew (Below.refl _ _)), F2.out.2.trans (Below.drew (Below.refl _ _))⟩) ?_
              refine zH (.pointer (some ⟨g, 0, none⟩)) (fun w h => heldRun_value (by kernel_rfl) h) ?_
              refine zH (.int .i64 hd.wr) (fun w h => heldRun_value (run_load_one _ _ _ 3 _ _ rfl (g) (0) rfl (hcell h.1 (Hdr.c0)) (by kernel_rfl)) h) ?_
              refine zH (.int .i64 (kw : Int)) (fun w h => heldRun_value (run_subi Try.underlying3 rfl rfl rfl _ (by rw [KW.out.1]; have := KW.out.2.1; exact wrap_in _ (by omega) (by omega))) h) ?_
              refine zH (.pointer (some ⟨g, 54, none⟩)) (fun w h => heldRun_value (by kernel_rfl) h) ?_
              refine zH (.pointer (some ⟨g, 54 + kw, none⟩)) (fun w h => heldRun_value (run_idx23 _ _ _ _ _ g 54 kw rfl rfl rfl KW.out.2.1) h) ?_
              refine zH (.int .u64 kv) (fun w h => heldRun_value (run_load_one _ _ _ 22 _ _ rfl (g) (54 + kw) rfl ((hcell h.1 (Hdr.ck HO.out kw KW.out.2.1)).trans (by rw [KV.out])) (by kernel_rfl)) h) ?_
              refine zH (.pointer (some ⟨g, 1, none⟩)) (fun w h => heldRun_value (by kernel_rfl) h) ?_
              refine zH (.int .u64 hd.sq) (fun w h => heldRun_value (run_load_one _ _ _ 22 _ _ rfl (g) (1) rfl (hcell h.1 (Hdr.c1)) (by kernel_rfl)) h) ?_
              refine zH (.int .u64 (hd.sq - 1)) (fun w h => heldRun_value (run_subi Try.underlying22 rfl rfl rfl _ (wrap_u64 _ (by have := S1.out; omega) (by have := HO.out.sb; omega))) h) ?_
              refine zH (.bool true) (fun w h => heldRun_value (run_nei Try.underlying22 rfl rfl rfl (by have := K1.out; rw [decide_eq_true_eq]; omega)) h) ?_
              refine zH (.bool true) (fun w h => heldRun_value (by kernel_rfl) h) ?_
              refine zJ ?_
              refine zJ ?_
              refine zJ ?_
              refine zJ ?_
              refine zH (.bool true) (fun w h => heldRun_value (by kernel_rfl) h) ?_
              refine zH (.bool true) (fun w h => heldRun_value (by kernel_rfl) h) ?_
              refine wpHeld_nil ?_
              intro X h
              have F3 := Lib.hid h
              clear h F2
              go_upto_region 14 with (fail)
              refine wp_region_lit ?_
              refine zP (.bool false) ?_
              go_wp2_with fail
              go_ret
              exact ⟨false, rfl, ⟨fun q => (by cases q), fun q => absurd q (fun q => by have := q.kn; rw [KW.out.2.2, KV.out] at this; exact K1.out this)⟩, F3.out.2⟩
          ·by_cases c0 : hd.it = (List.replicate 16 0)
           ·have I1 := Lib.hid c0
            clear c0
            by_cases c0 : 0 < hd.tn
            ·have I2 := Lib.hid c0
             clear c0
             go_upto_region 9 with (fail)
             refine wp_region_lit ?_
             refine zP (.pointer (some ⟨g, 35, none⟩)) ?_
             refine zQ (.bool true) (run_load_one _ _ _ 4 _ _ rfl (g) (35) rfl (hcell F1.out.1 ((Hdr.c35 HO.out).trans (by rw [HC.out]))) (by kernel_rfl)) ?_
             refine zP (.bool true) ?_
             refine zP (.pointer (some ⟨g, 37, none⟩)) ?_
             refine zQ (.agg (u8l hd.it).toArray) (run_load_mid _ _ _ 34 _ rfl g 37 rfl (u8l hd.it) _ (Hdr.rit HO.out F1.out.1) Try.underlying34 rfl (by rw [u8l_len, HO.out.il]; kernel_rfl)) ?_
             refine zP (.agg (u8l (List.replicate 16 0)).toArray) ?_
             refine zQ (.bool false) (run_ne16 _ _ _ _ _ hd.it (List.replicate 16 0) false HO.out.il List.length_replicate rfl rfl rfl (by rw [decide_eq_true I1.out]; rfl)) ?_
             refine zP (.bool false) ?_
             refine zP (.pointer (some ⟨g, 53, none⟩)) ?_
             refine zQ (.slice hd.ta hd.tn hd.tc) (run_load_one _ _ _ 35 _ _ rfl (g) (53) rfl (hcell F1.out.1 (Hdr.c53 HO.out)) (by kernel_rfl)) ?_
             refine zP (.int .i64 (hd.tn : Int)) ?_
             refine zQ (.bool true) (run_gti Try.underlying3 rfl rfl rfl (by have := I2.out; rw [decide_eq_true_eq]; omega)) ?_
             refine zP (.bool true) ?_
             refine zP (.bool true) ?_
             refine zP (.bool true) ?_
             go_upto_region 10 with (fail)
             refine wp_region_lit ?_
             refine zP (.bool false) ?_
             go_wp2_with fail
             go_ret
             exact ⟨false, rfl, ⟨fun q => (by cases q), fun q => absurd q (fun q => by have := I2.out; have := (q.ct HC.out).2; omega)⟩, F1.out.2.1⟩
            ·have I2 := Lib.hid c0
             clear c0
             go_upto_region 9 with (fail)
             refine wp_region_lit ?_
             refine zP (.pointer (some ⟨g, 35, none⟩)) ?_
             refine zQ (.bool true) (run_load_one _ _ _ 4 _ _ rfl (g) (35) rfl (hcell F1.out.1 ((Hdr.c35 HO.out).trans (by rw [HC.out]))) (by kernel_rfl)) ?_
             refine zP (.bool true) ?_
             refine zP (.pointer (some ⟨g, 37, none⟩)) ?_
             refine zQ (.agg (u8l hd.it).toArray) (run_load_mid _ _ _ 34 _ rfl g 37 rfl (u8l hd.it) _ (Hdr.rit HO.out F1.out.1) Try.underlying34 rfl (by rw [u8l_len, HO.out.il]; kernel_rfl)) ?_
             refine zP (.agg (u8l (List.replicate 16 0)).toArray) ?_
             refine zQ (.bool false) (run_ne16 _ _ _ _ _ hd.it (List.replicate 16 0) false HO.out.il List.length_replicate rfl rfl rfl (by rw [decide_eq_true I1.out]; rfl)) ?_
             refine zP (.bool false) ?_
             refine zP (.pointer (some ⟨g, 53, none⟩)) ?_
             refine zQ (.slice hd.ta hd.tn hd.tc) (run_load_one _ _ _ 35 _ _ rfl (g) (53) rfl (hcell F1.out.1 (Hdr.c53 HO.out)) (by kernel_rfl)) ?_
             refine zP (.int .i64 (hd.tn : Int)) ?_
             refine zQ (.bool false) (run_gti Try.underlying3 rfl rfl rfl (by have := I2.out; rw [decide_eq_false_iff_not]; omega)) ?_
             refine zP (.bool false) ?_
             refine zP (.bool false) ?_
             refine zP (.bool false) ?_
             by_cases c0 : 8 < hd.tn
             ·have T1 := Lib.hid c0
              clear c0
              go_upto_region 11 with (fail)
              refine wp_region_lit ?_
              refine zP (.pointer (some ⟨g, 53, none⟩)) ?_
              refine zQ (.slice hd.ta hd.tn hd.tc) (run_load_one _ _ _ 35 _ _ rfl (g) (53) rfl (hcell F1.out.1 (Hdr.c53 HO.out)) (by kernel_rfl)) ?_
              refine zP (.int .i64 (hd.tn : Int)) ?_
              refine zQ (.bool true) (run_gti Try.underlying3 rfl rfl rfl (by have := T1.out; rw [decide_eq_true_eq]; omega)) ?_
              refine zP (.bool true) ?_
              refine zG ?_
              refine zG ?_
              refine zG ?_
              refine zG ?_
              refine zP (.bool true) ?_
              refine zP (.bool true) ?_
              go_upto_region 12 with (fail)
              refine wp_region_lit ?_
              refine zP (.bool false) ?_
              go_wp2_with fail
              go_ret
              exact ⟨false, rfl, ⟨fun q => (by cases q), fun q => absurd q (fun q => by have := T1.out; have := q.tn; omega)⟩, F1.out.2.1⟩
             ·have T1 := Lib.hid c0
              clear c0
              go_upto_region 11 with (fail)
              refine wp_region_lit ?_
              refine zP (.pointer (some ⟨g, 53, none⟩)) ?_
              refine zQ (.slice hd.ta hd.tn hd.tc) (run_load_one _ _ _ 35 _ _ rfl (g) (53) rfl (hcell F1.out.1 (Hdr.c53 HO.out)) (by kernel_rfl)) ?_
              refine zP (.int .i64 (hd.tn : Int)) ?_
              refine zQ (.bool false) (run_gti Try.underlying3 rfl rfl rfl (by have := T1.out; rw [decide_eq_false_iff_not]; omega)) ?_
              refine zP (.bool false) ?_
              refine zP (.pointer (some ⟨g, 53, none⟩)) ?_
              refine zQ (.slice hd.ta hd.tn hd.tc) (run_load_one _ _ _ 35 _ _ rfl (g) (53) rfl (hcell F1.out.1 (Hdr.c53 HO.out)) (by kernel_rfl)) ?_
              refine wpL_call 29 #[.slice hd.ta hd.tn hd.tc] rfl (by kernel_rfl) ((sorted_any w1 hd.ta hd.tn hd.tc T F1.out.2.2).mono ?_)
              rintro e w2 ⟨z, rfl, hz, hb⟩
              have F2 : Hid (Blk w2 g 37 hd.L.toArray ∧ Below w.heap.size w w2) := Lib.hid ⟨F1.out.1.below hb, F1.out.2.1.trans (hb.mono F1.out.2.1.size)⟩
              have SZ := Lib.hid hz
              clear hz hb
              refine ⟨_, rfl, ?_⟩
              simp only [Act.put, List.setIfInBounds_toArray, List.set_cons_zero, List.set_cons_succ]
              cases z
              ·refine zP (.bool true) ?_
               refine zP (.bool true) ?_
               refine zP (.bool true) ?_
               unfold wpList
               go_upto_region 12 with (fail)
               refine wp_region_lit ?_
               refine zP (.bool false) ?_
               go_wp2_with fail
               go_ret
               exact ⟨false, rfl, ⟨fun q => (by cases q), fun q => absurd (SZ.out.2 q.so) (by simp)⟩, F2.out.2⟩
              ·refine zP (.bool false) ?_
               refine zP (.bool false) ?_
               refine zP (.bool false) ?_
               unfold wpList
               obtain ⟨kw, hkw⟩ : ∃ k : Nat, hd.wr - 1 = (k : Int) := ⟨(hd.wr - 1).toNat, by have := W1.out; omega⟩
               have KW : Hid (hd.wr - 1 = (kw : Int) ∧ kw < 6 ∧ (hd.wr - 1).toNat = kw) := Lib.hid ⟨hkw, by have := W2.out; omega, by omega⟩
               clear hkw
               obtain ⟨kv, hkv⟩ : ∃ q, hd.kn.getD kw 0 = q := ⟨_, rfl⟩
               have KV := Lib.hid hkv
               clear hkv
               obtain ⟨mm, hmm⟩ : ∃ q, mxN (fun k => hd.kn.getD k 0) 5 = q := ⟨_, rfl⟩
               have MM := Lib.hid hmm
               clear hmm
               by_cases c0 : kv = hd.sq - 1
               ·have K1 := Lib.hid c0
                clear c0
                by_cases c0 : 1048576 < mm
                ·have K2 := Lib.hid c0
                 clear c0
                 go_upto_region 13 with (fail)
                 refine region_held_all (fun X => Blk X g 37 hd.L.toArray ∧ Below w.heap.size w X) (by kernel_rfl) (by kernel_rfl) (by exact ⟨F2.out.1.below (Below.drew (Below.refl _ _)), F2.out.2.trans (Below.drew (Below.refl _ _))⟩) ?_
                 refine zH (.pointer (some ⟨g, 0, none⟩)) (fun w h => heldRun_value (by kernel_rfl) h) ?_
                 refine zH (.int .i64 hd.wr) (fun w h => heldRun_value (run_load_one _ _ _ 3 _ _ rfl (g) (0) rfl (hcell h.1 (Hdr.c0)) (by kernel_rfl)) h) ?_
                 refine zH (.int .i64 (kw : Int)) (fun w h => heldRun_value (run_subi Try.underlying3 rfl rfl rfl _ (by rw [KW.out.1]; have := KW.out.2.1; exact wrap_in _ (by omega) (by omega))) h) ?_
                 refine zH (.pointer (some ⟨g, 54, none⟩)) (fun w h => heldRun_value (by kernel_rfl) h) ?_
                 refine zH (.pointer (some ⟨g, 54 + kw, none⟩)) (fun w h => heldRun_value (run_idx23 _ _ _ _ _ g 54 kw rfl rfl rfl KW.out.2.1) h) ?_
                 refine zH (.int .u64 kv) (fun w h => heldRun_value (run_load_one _ _ _ 22 _ _ rfl (g) (54 + kw) rfl ((hcell h.1 (Hdr.ck HO.out kw KW.out.2.1)).trans (by rw [KV.out])) (by kernel_rfl)) h) ?_
                 refine zH (.pointer (some ⟨g, 1, none⟩)) (fun w h => heldRun_value (by kernel_rfl) h) ?_
                 refine zH (.int .u64 hd.sq) (fun w h => heldRun_value (run_load_one _ _ _ 22 _ _ rfl (g) (1) rfl (hcell h.1 (Hdr.c1)) (by kernel_rfl)) h) ?_
                 refine zH (.int .u64 (hd.sq - 1)) (fun w h => heldRun_value (run_subi Try.underlying22 rfl rfl rfl _ (wrap_u64 _ (by have := S1.out; omega) (by have := HO.out.sb; omega))) h) ?_
                 refine zH (.bool false) (fun w h => heldRun_value (run_nei Try.underlying22 rfl rfl rfl (by have := K1.out; rw [decide_eq_false_iff_not]; omega)) h) ?_
                 refine zH (.bool false) (fun w h => heldRun_value (by kernel_rfl) h) ?_
                 refine zH (.pointer (some ⟨g, 54, none⟩)) (fun w h => heldRun_value (by kernel_rfl) h) ?_
                 refine zH (.slice (some ⟨g, 54, none⟩) 6 6) (fun w h => heldRun_value (by kernel_rfl) h) ?_
                 refine wpHeld_call (.int .u64 mm) 30 #[.slice (some ⟨g, 54, none⟩) 6 6] rfl (fun w => by kernel_rfl) (fun X h => (max_any X g 54 (fun k => hd.kn.getD k 0) (fun k hk => hcell h.1 (Hdr.ck HO.out k hk))).mono fun e V he => ⟨by rw [he.1, MM.out], he.2.symm ▸ h⟩) ?_
                 simp only [Act.put, List.setIfInBounds_toArray, List.set_cons_zero, List.set_cons_succ]
                 refine zH (.bool true) (fun w h => heldRun_value (run_gti Try.underlying22 rfl rfl rfl (by have := K2.out; rw [decide_eq_true_eq]; omega)) h) ?_
                 refine zH (.bool true) (fun w h => heldRun_value (by kernel_rfl) h) ?_
                 refine zH (.bool true) (fun w h => heldRun_value (by kernel_rfl) h) ?_
                 refine wpHeld_nil ?_
                 intro X h
                 have F3 := Lib.hid h
                 clear h F2
                 go_upto_region 14 with (fail)
                 refine wp_region_lit ?_
                 refine zP (.bool false) ?_
                 go_wp2_with fail
                 go_ret
                 exact ⟨false, rfl, ⟨fun q => (by cases q), fun q => absurd q (fun q => by have r := (mxN_le (fun k => hd.kn.getD k 0) 1048576 5).2 (fun j hj => q.km j (by omega)); rw [MM.out] at r; have := K2.out; omega)⟩, F3.out.2⟩
                ·have K2 := Lib.hid c0
                 clear c0
                 go_upto_region 13 with (fail)
                 refine region_held_all (fun X => Blk X g 37 hd.L.toArray ∧ Below w.heap.size w X) (by kernel_rfl) (by kernel_rfl) (by exact ⟨F2.out.1.below (Below.drew (Below.refl _ _)), F2.out.2.trans (Below.drew (Below.refl _ _))⟩) ?_
                 refine zH (.pointer (some ⟨g, 0, none⟩)) (fun w h => heldRun_value (by kernel_rfl) h) ?_
                 refine zH (.int .i64 hd.wr) (fun w h => heldRun_value (run_load_one _ _ _ 3 _ _ rfl (g) (0) rfl (hcell h.1 (Hdr.c0)) (by kernel_rfl)) h) ?_
                 refine zH (.int .i64 (kw : Int)) (fun w h => heldRun_value (run_subi Try.underlying3 rfl rfl rfl _ (by rw [KW.out.1]; have := KW.out.2.1; exact wrap_in _ (by omega) (by omega))) h) ?_
                 refine zH (.pointer (some ⟨g, 54, none⟩)) (fun w h => heldRun_value (by kernel_rfl) h) ?_
                 refine zH (.pointer (some ⟨g, 54 + kw, none⟩)) (fun w h => heldRun_value (run_idx23 _ _ _ _ _ g 54 kw rfl rfl rfl KW.out.2.1) h) ?_
                 refine zH (.int .u64 kv) (fun w h => heldRun_value (run_load_one _ _ _ 22 _ _ rfl (g) (54 + kw) rfl ((hcell h.1 (Hdr.ck HO.out kw KW.out.2.1)).trans (by rw [KV.out])) (by kernel_rfl)) h) ?_
                 refine zH (.pointer (some ⟨g, 1, none⟩)) (fun w h => heldRun_value (by kernel_rfl) h) ?_
                 refine zH (.int .u64 hd.sq) (fun w h => heldRun_value (run_load_one _ _ _ 22 _ _ rfl (g) (1) rfl (hcell h.1 (Hdr.c1)) (by kernel_rfl)) h) ?_
                 refine zH (.int .u64 (hd.sq - 1)) (fun w h => heldRun_value (run_subi Try.underlying22 rfl rfl rfl _ (wrap_u64 _ (by have := S1.out; omega) (by have := HO.out.sb; omega))) h) ?_
                 refine zH (.bool false) (fun w h => heldRun_value (run_nei Try.underlying22 rfl rfl rfl (by have := K1.out; rw [decide_eq_false_iff_not]; omega)) h) ?_
                 refine zH (.bool false) (fun w h => heldRun_value (by kernel_rfl) h) ?_
                 refine zH (.pointer (some ⟨g, 54, none⟩)) (fun w h => heldRun_value (by kernel_rfl) h) ?_
                 refine zH (.slice (some ⟨g, 54, none⟩) 6 6) (fun w h => heldRun_value (by kernel_rfl) h) ?_
                 refine wpHeld_call (.int .u64 mm) 30 #[.slice (some ⟨g, 54, none⟩) 6 6] rfl (fun w => by kernel_rfl) (fun X h => (max_any X g 54 (fun k => hd.kn.getD k 0) (fun k hk => hcell h.1 (Hdr.ck HO.out k hk))).mono fun e V he => ⟨by rw [he.1, MM.out], he.2.symm ▸ h⟩) ?_
                 simp only [Act.put, List.setIfInBounds_toArray, List.set_cons_zero, List.set_cons_succ]
                 refine zH (.bool false) (fun w h => heldRun_value (run_gti Try.underlying22 rfl rfl rfl (by have := K2.out; rw [decide_eq_false_iff_not]; omega)) h) ?_
                 refine zH (.bool false) (fun w h => heldRun_value (by kernel_rfl) h) ?_
                 refine zH (.bool false) (fun w h => heldRun_value (by kernel_rfl) h) ?_
                 refine wpHeld_nil ?_
                 intro X h
                 have F3 := Lib.hid h
                 clear h F2
                 obtain ⟨ns, hns⟩ : ∃ q, IntKind.i64.wrap (hd.sz - 16) = q := ⟨_, rfl⟩
                 have NS := Lib.hid hns
                 clear hns
                 go_upto_region 15 with (fail)
                 refine wp_region_lit ?_
                 refine zP (.pointer (some ⟨g, 92, none⟩)) ?_
                 refine zQ (.int .i64 hd.sz) (run_load_one _ _ _ 3 _ _ rfl (g) (92) rfl (hcell F3.out.1 (Hdr.c92 HO.out)) (by kernel_rfl)) ?_
                 refine zQ (.int .i64 ns) (run_subi Try.underlying3 rfl rfl rfl _ (NS.out)) ?_
                 refine wpL_call 31 #[.int .i64 ns] rfl (by kernel_rfl) ((is_any ns X).mono ?_)
                 rintro e w9 ⟨z, rfl, hz, rfl⟩
                 have HZ := Lib.hid hz
                 clear hz
                 refine ⟨_, rfl, ?_⟩
                 simp only [Act.put, List.setIfInBounds_toArray, List.set_cons_zero, List.set_cons_succ]
                 refine zP (.bool z) ?_
                 unfold wpList
                 go_wp2_with fail
                 go_ret
                 have ez : bkt ns ↔ bkt (hd.sz - 16) := by rw [← NS.out]; exact wrap_bkt HO.out.zb
                 exact ⟨z, rfl, ⟨fun q => ⟨by have := W1.out; have := W2.out; omega, by have := S1.out; have := S2.out; omega, fun _ => Q2.out, by have := E1.out; have := E2.out; omega, by have := E3.out; omega, fun _ => ⟨I1.out, by have := I2.out; omega⟩, by have := T1.out; omega, SZ.out.1 (by simp), by rw [KW.out.2.2, KV.out]; exact K1.out, fun j hj => (mxN_le (fun k => hd.kn.getD k 0) 1048576 5).1 (by rw [MM.out]; have := K2.out; omega) j (by omega), ez.1 (HZ.out.1 q)⟩, fun q => HZ.out.2 (ez.2 q.sz)⟩, F3.out.2⟩
               ·have K1 := Lib.hid c0
                clear c0
                go_upto_region 13 with (fail)
                refine region_held_all (fun X => Blk X g 37 hd.L.toArray ∧ Below w.heap.size w X) (by kernel_rfl) (by kernel_rfl) (by exact ⟨F2.out.1.below (Below.drew (Below.refl _ _)), F2.out.2.trans (Below.drew (Below.refl _ _))⟩) ?_
                refine zH (.pointer (some ⟨g, 0, none⟩)) (fun w h => heldRun_value (by kernel_rfl) h) ?_
                refine zH (.int .i64 hd.wr) (fun w h => heldRun_value (run_load_one _ _ _ 3 _ _ rfl (g) (0) rfl (hcell h.1 (Hdr.c0)) (by kernel_rfl)) h) ?_
                refine zH (.int .i64 (kw : Int)) (fun w h => heldRun_value (run_subi Try.underlying3 rfl rfl rfl _ (by rw [KW.out.1]; have := KW.out.2.1; exact wrap_in _ (by omega) (by omega))) h) ?_
                refine zH (.pointer (some ⟨g, 54, none⟩)) (fun w h => heldRun_value (by kernel_rfl) h) ?_
                refine zH (.pointer (some ⟨g, 54 + kw, none⟩)) (fun w h => heldRun_value (run_idx23 _ _ _ _ _ g 54 kw rfl rfl rfl KW.out.2.1) h) ?_
                refine zH (.int .u64 kv) (fun w h => heldRun_value (run_load_one _ _ _ 22 _ _ rfl (g) (54 + kw) rfl ((hcell h.1 (Hdr.ck HO.out kw KW.out.2.1)).trans (by rw [KV.out])) (by kernel_rfl)) h) ?_
                refine zH (.pointer (some ⟨g, 1, none⟩)) (fun w h => heldRun_value (by kernel_rfl) h) ?_
                refine zH (.int .u64 hd.sq) (fun w h => heldRun_value (run_load_one _ _ _ 22 _ _ rfl (g) (1) rfl (hcell h.1 (Hdr.c1)) (by kernel_rfl)) h) ?_
                refine zH (.int .u64 (hd.sq - 1)) (fun w h => heldRun_value (run_subi Try.underlying22 rfl rfl rfl _ (wrap_u64 _ (by have := S1.out; omega) (by have := HO.out.sb; omega))) h) ?_
                refine zH (.bool true) (fun w h => heldRun_value (run_nei Try.underlying22 rfl rfl rfl (by have := K1.out; rw [decide_eq_true_eq]; omega)) h) ?_
                refine zH (.bool true) (fun w h => heldRun_value (by kernel_rfl) h) ?_
                refine zJ ?_
                refine zJ ?_
                refine zJ ?_
                refine zJ ?_
                refine zH (.bool true) (fun w h => heldRun_value (by kernel_rfl) h) ?_
                refine zH (.bool true) (fun w h => heldRun_value (by kernel_rfl) h) ?_
                refine wpHeld_nil ?_
                intro X h
                have F3 := Lib.hid h
                clear h F2
                go_upto_region 14 with (fail)
                refine wp_region_lit ?_
                refine zP (.bool false) ?_
                go_wp2_with fail
                go_ret
                exact ⟨false, rfl, ⟨fun q => (by cases q), fun q => absurd q (fun q => by have := q.kn; rw [KW.out.2.2, KV.out] at this; exact K1.out this)⟩, F3.out.2⟩
           ·have I1 := Lib.hid c0
            clear c0
            go_upto_region 9 with (fail)
            refine wp_region_lit ?_
            refine zP (.pointer (some ⟨g, 35, none⟩)) ?_
            refine zQ (.bool true) (run_load_one _ _ _ 4 _ _ rfl (g) (35) rfl (hcell F1.out.1 ((Hdr.c35 HO.out).trans (by rw [HC.out]))) (by kernel_rfl)) ?_
            refine zP (.bool true) ?_
            refine zP (.pointer (some ⟨g, 37, none⟩)) ?_
            refine zQ (.agg (u8l hd.it).toArray) (run_load_mid _ _ _ 34 _ rfl g 37 rfl (u8l hd.it) _ (Hdr.rit HO.out F1.out.1) Try.underlying34 rfl (by rw [u8l_len, HO.out.il]; kernel_rfl)) ?_
            refine zP (.agg (u8l (List.replicate 16 0)).toArray) ?_
            refine zQ (.bool true) (run_ne16 _ _ _ _ _ hd.it (List.replicate 16 0) true HO.out.il List.length_replicate rfl rfl rfl (by rw [decide_eq_false I1.out]; rfl)) ?_
            refine zP (.bool true) ?_
            refine zG ?_
            refine zG ?_
            refine zG ?_
            refine zG ?_
            refine zP (.bool true) ?_
            refine zP (.bool true) ?_
            refine zP (.bool true) ?_
            go_upto_region 10 with (fail)
            refine wp_region_lit ?_
            refine zP (.bool false) ?_
            go_wp2_with fail
            go_ret
            exact ⟨false, rfl, ⟨fun q => (by cases q), fun q => absurd q (fun q => I1.out (q.ct HC.out).1)⟩, F1.out.2.1⟩
      ·have Q2 := Lib.hid c0
       clear c0
       go_upto_region 5 with (fail)
       refine wp_region_lit ?_
       refine zP (.pointer (some ⟨g, 1, none⟩)) ?_
       refine zQ (.int .u64 hd.sq) (run_load_one _ _ _ 22 _ _ rfl (g) (1) rfl (hcell F1.out.1 (Hdr.c1)) (by kernel_rfl)) ?_
       refine zQ (.bool true) (run_eqi Try.underlying22 rfl rfl rfl (by have := Q1.out; rw [decide_eq_true_eq]; omega)) ?_
       refine zP (.bool true) ?_
       refine zP (.pointer (some ⟨g, 2, none⟩)) ?_
       refine zQ (.agg (u8l hd.pv).toArray) (run_load_mid _ _ _ 32 _ rfl g 2 rfl (u8l hd.pv) _ (Hdr.rpv HO.out F1.out.1) Try.underlying32 rfl (by rw [u8l_len, HO.out.pl]; kernel_rfl)) ?_
       refine zP (.agg (u8l (List.replicate 32 0)).toArray) ?_
       refine zQ (.bool true) (run_ne32 _ _ _ _ _ hd.pv (List.replicate 32 0) true HO.out.pl List.length_replicate rfl rfl rfl (by rw [decide_eq_false Q2.out]; rfl)) ?_
       refine zP (.bool true) ?_
       refine zP (.bool true) ?_
       go_upto_region 6 with (fail)
       refine wp_region_lit ?_
       refine zP (.bool false) ?_
       go_wp2_with fail
       go_ret
       exact ⟨false, rfl, ⟨fun q => (by cases q), fun q => absurd q (fun q => Q2.out (q.pv Q1.out))⟩, F1.out.2.1⟩
     ·have Q1 := Lib.hid c0
      clear c0
      go_upto_region 5 with (fail)
      refine wp_region_lit ?_
      refine zP (.pointer (some ⟨g, 1, none⟩)) ?_
      refine zQ (.int .u64 hd.sq) (run_load_one _ _ _ 22 _ _ rfl (g) (1) rfl (hcell F1.out.1 (Hdr.c1)) (by kernel_rfl)) ?_
      refine zQ (.bool false) (run_eqi Try.underlying22 rfl rfl rfl (by have := Q1.out; rw [decide_eq_false_iff_not]; omega)) ?_
      refine zP (.bool false) ?_
      refine zG ?_
      refine zG ?_
      refine zG ?_
      refine zG ?_
      refine zP (.bool false) ?_
      refine zP (.bool false) ?_
      by_cases c0 : hd.ep < 0
      ·have E1 := Lib.hid c0
       clear c0
       go_upto_region 7 with (fail)
       refine wp_region_lit ?_
       refine zP (.pointer (some ⟨g, 34, none⟩)) ?_
       refine zQ (.int .i64 hd.ep) (run_load_one _ _ _ 3 _ _ rfl (g) (34) rfl (hcell F1.out.1 (Hdr.c34 HO.out)) (by kernel_rfl)) ?_
       refine zQ (.bool true) (run_lti Try.underlying3 rfl rfl rfl (by have := E1.out; rw [decide_eq_true_eq]; omega)) ?_
       refine zP (.bool true) ?_
       refine zG ?_
       refine zG ?_
       refine zG ?_
       refine zP (.bool true) ?_
       refine zP (.bool true) ?_
       refine zG ?_
       refine zG ?_
       refine zG ?_
       refine zP (.bool true) ?_
       refine zP (.bool true) ?_
       go_upto_region 8 with (fail)
       refine wp_region_lit ?_
       refine zP (.bool false) ?_
       go_wp2_with fail
       go_ret
       exact ⟨false, rfl, ⟨fun q => (by cases q), fun q => absurd q (fun q => by have := E1.out; have := q.ep; omega)⟩, F1.out.2.1⟩
      ·have E1 := Lib.hid c0
       clear c0
       by_cases c0 : 255 < hd.ep
       ·have E2 := Lib.hid c0
        clear c0
        go_upto_region 7 with (fail)
        refine wp_region_lit ?_
        refine zP (.pointer (some ⟨g, 34, none⟩)) ?_
        refine zQ (.int .i64 hd.ep) (run_load_one _ _ _ 3 _ _ rfl (g) (34) rfl (hcell F1.out.1 (Hdr.c34 HO.out)) (by kernel_rfl)) ?_
        refine zQ (.bool false) (run_lti Try.underlying3 rfl rfl rfl (by have := E1.out; rw [decide_eq_false_iff_not]; omega)) ?_
        refine zP (.bool false) ?_
        refine zP (.pointer (some ⟨g, 34, none⟩)) ?_
        refine zQ (.int .i64 hd.ep) (run_load_one _ _ _ 3 _ _ rfl (g) (34) rfl (hcell F1.out.1 (Hdr.c34 HO.out)) (by kernel_rfl)) ?_
        refine zQ (.bool true) (run_gti Try.underlying3 rfl rfl rfl (by have := E2.out; rw [decide_eq_true_eq]; omega)) ?_
        refine zP (.bool true) ?_
        refine zP (.bool true) ?_
        refine zG ?_
        refine zG ?_
        refine zG ?_
        refine zP (.bool true) ?_
        refine zP (.bool true) ?_
        go_upto_region 8 with (fail)
        refine wp_region_lit ?_
        refine zP (.bool false) ?_
        go_wp2_with fail
        go_ret
        exact ⟨false, rfl, ⟨fun q => (by cases q), fun q => absurd q (fun q => by have := E2.out; have := q.ep; omega)⟩, F1.out.2.1⟩
       ·have E2 := Lib.hid c0
        clear c0
        by_cases c0 : 1099511627776 < hd.tm
        ·have E3 := Lib.hid c0
         clear c0
         go_upto_region 7 with (fail)
         refine wp_region_lit ?_
         refine zP (.pointer (some ⟨g, 34, none⟩)) ?_
         refine zQ (.int .i64 hd.ep) (run_load_one _ _ _ 3 _ _ rfl (g) (34) rfl (hcell F1.out.1 (Hdr.c34 HO.out)) (by kernel_rfl)) ?_
         refine zQ (.bool false) (run_lti Try.underlying3 rfl rfl rfl (by have := E1.out; rw [decide_eq_false_iff_not]; omega)) ?_
         refine zP (.bool false) ?_
         refine zP (.pointer (some ⟨g, 34, none⟩)) ?_
         refine zQ (.int .i64 hd.ep) (run_load_one _ _ _ 3 _ _ rfl (g) (34) rfl (hcell F1.out.1 (Hdr.c34 HO.out)) (by kernel_rfl)) ?_
         refine zQ (.bool false) (run_gti Try.underlying3 rfl rfl rfl (by have := E2.out; rw [decide_eq_false_iff_not]; omega)) ?_
         refine zP (.bool false) ?_
         refine zP (.bool false) ?_
         refine zP (.pointer (some ⟨g, 36, none⟩)) ?_
         refine zQ (.int .u64 hd.tm) (run_load_one _ _ _ 22 _ _ rfl (g) (36) rfl (hcell F1.out.1 (Hdr.c36 HO.out)) (by kernel_rfl)) ?_
         refine zQ (.bool true) (run_gti Try.underlying22 rfl rfl rfl (by have := E3.out; rw [decide_eq_true_eq]; omega)) ?_
         refine zP (.bool true) ?_
         refine zP (.bool true) ?_
         go_upto_region 8 with (fail)
         refine wp_region_lit ?_
         refine zP (.bool false) ?_
         go_wp2_with fail
         go_ret
         exact ⟨false, rfl, ⟨fun q => (by cases q), fun q => absurd q (fun q => by have := E3.out; have := q.tm; omega)⟩, F1.out.2.1⟩
        ·have E3 := Lib.hid c0
         clear c0
         go_upto_region 7 with (fail)
         refine wp_region_lit ?_
         refine zP (.pointer (some ⟨g, 34, none⟩)) ?_
         refine zQ (.int .i64 hd.ep) (run_load_one _ _ _ 3 _ _ rfl (g) (34) rfl (hcell F1.out.1 (Hdr.c34 HO.out)) (by kernel_rfl)) ?_
         refine zQ (.bool false) (run_lti Try.underlying3 rfl rfl rfl (by have := E1.out; rw [decide_eq_false_iff_not]; omega)) ?_
         refine zP (.bool false) ?_
         refine zP (.pointer (some ⟨g, 34, none⟩)) ?_
         refine zQ (.int .i64 hd.ep) (run_load_one _ _ _ 3 _ _ rfl (g) (34) rfl (hcell F1.out.1 (Hdr.c34 HO.out)) (by kernel_rfl)) ?_
         refine zQ (.bool false) (run_gti Try.underlying3 rfl rfl rfl (by have := E2.out; rw [decide_eq_false_iff_not]; omega)) ?_
         refine zP (.bool false) ?_
         refine zP (.bool false) ?_
         refine zP (.pointer (some ⟨g, 36, none⟩)) ?_
         refine zQ (.int .u64 hd.tm) (run_load_one _ _ _ 22 _ _ rfl (g) (36) rfl (hcell F1.out.1 (Hdr.c36 HO.out)) (by kernel_rfl)) ?_
         refine zQ (.bool false) (run_gti Try.underlying22 rfl rfl rfl (by have := E3.out; rw [decide_eq_false_iff_not]; omega)) ?_
         refine zP (.bool false) ?_
         refine zP (.bool false) ?_
         obtain ⟨cz, hcz⟩ : ∃ z, hd.ct = z := ⟨_, rfl⟩
         have HC := Lib.hid hcz
         clear hcz
         cases cz
         ·go_upto_region 9 with (fail)
          refine wp_region_lit ?_
          refine zP (.pointer (some ⟨g, 35, none⟩)) ?_
          refine zQ (.bool false) (run_load_one _ _ _ 4 _ _ rfl (g) (35) rfl (hcell F1.out.1 ((Hdr.c35 HO.out).trans (by rw [HC.out]))) (by kernel_rfl)) ?_
          refine zP (.bool false) ?_
          refine zG ?_
          refine zG ?_
          refine zG ?_
          refine zG ?_
          refine zG ?_
          refine zG ?_
          refine zG ?_
          refine zG ?_
          refine zG ?_
          refine zG ?_
          refine zP (.bool false) ?_
          refine zP (.bool false) ?_
          by_cases c0 : 8 < hd.tn
          ·have T1 := Lib.hid c0
           clear c0
           go_upto_region 11 with (fail)
           refine wp_region_lit ?_
           refine zP (.pointer (some ⟨g, 53, none⟩)) ?_
           refine zQ (.slice hd.ta hd.tn hd.tc) (run_load_one _ _ _ 35 _ _ rfl (g) (53) rfl (hcell F1.out.1 (Hdr.c53 HO.out)) (by kernel_rfl)) ?_
           refine zP (.int .i64 (hd.tn : Int)) ?_
           refine zQ (.bool true) (run_gti Try.underlying3 rfl rfl rfl (by have := T1.out; rw [decide_eq_true_eq]; omega)) ?_
           refine zP (.bool true) ?_
           refine zG ?_
           refine zG ?_
           refine zG ?_
           refine zG ?_
           refine zP (.bool true) ?_
           refine zP (.bool true) ?_
           go_upto_region 12 with (fail)
           refine wp_region_lit ?_
           refine zP (.bool false) ?_
           go_wp2_with fail
           go_ret
           exact ⟨false, rfl, ⟨fun q => (by cases q), fun q => absurd q (fun q => by have := T1.out; have := q.tn; omega)⟩, F1.out.2.1⟩
          ·have T1 := Lib.hid c0
           clear c0
           go_upto_region 11 with (fail)
           refine wp_region_lit ?_
           refine zP (.pointer (some ⟨g, 53, none⟩)) ?_
           refine zQ (.slice hd.ta hd.tn hd.tc) (run_load_one _ _ _ 35 _ _ rfl (g) (53) rfl (hcell F1.out.1 (Hdr.c53 HO.out)) (by kernel_rfl)) ?_
           refine zP (.int .i64 (hd.tn : Int)) ?_
           refine zQ (.bool false) (run_gti Try.underlying3 rfl rfl rfl (by have := T1.out; rw [decide_eq_false_iff_not]; omega)) ?_
           refine zP (.bool false) ?_
           refine zP (.pointer (some ⟨g, 53, none⟩)) ?_
           refine zQ (.slice hd.ta hd.tn hd.tc) (run_load_one _ _ _ 35 _ _ rfl (g) (53) rfl (hcell F1.out.1 (Hdr.c53 HO.out)) (by kernel_rfl)) ?_
           refine wpL_call 29 #[.slice hd.ta hd.tn hd.tc] rfl (by kernel_rfl) ((sorted_any w1 hd.ta hd.tn hd.tc T F1.out.2.2).mono ?_)
           rintro e w2 ⟨z, rfl, hz, hb⟩
           have F2 : Hid (Blk w2 g 37 hd.L.toArray ∧ Below w.heap.size w w2) := Lib.hid ⟨F1.out.1.below hb, F1.out.2.1.trans (hb.mono F1.out.2.1.size)⟩
           have SZ := Lib.hid hz
           clear hz hb
           refine ⟨_, rfl, ?_⟩
           simp only [Act.put, List.setIfInBounds_toArray, List.set_cons_zero, List.set_cons_succ]
           cases z
           ·refine zP (.bool true) ?_
            refine zP (.bool true) ?_
            refine zP (.bool true) ?_
            unfold wpList
            go_upto_region 12 with (fail)
            refine wp_region_lit ?_
            refine zP (.bool false) ?_
            go_wp2_with fail
            go_ret
            exact ⟨false, rfl, ⟨fun q => (by cases q), fun q => absurd (SZ.out.2 q.so) (by simp)⟩, F2.out.2⟩
           ·refine zP (.bool false) ?_
            refine zP (.bool false) ?_
            refine zP (.bool false) ?_
            unfold wpList
            obtain ⟨kw, hkw⟩ : ∃ k : Nat, hd.wr - 1 = (k : Int) := ⟨(hd.wr - 1).toNat, by have := W1.out; omega⟩
            have KW : Hid (hd.wr - 1 = (kw : Int) ∧ kw < 6 ∧ (hd.wr - 1).toNat = kw) := Lib.hid ⟨hkw, by have := W2.out; omega, by omega⟩
            clear hkw
            obtain ⟨kv, hkv⟩ : ∃ q, hd.kn.getD kw 0 = q := ⟨_, rfl⟩
            have KV := Lib.hid hkv
            clear hkv
            obtain ⟨mm, hmm⟩ : ∃ q, mxN (fun k => hd.kn.getD k 0) 5 = q := ⟨_, rfl⟩
            have MM := Lib.hid hmm
            clear hmm
            by_cases c0 : kv = hd.sq - 1
            ·have K1 := Lib.hid c0
             clear c0
             by_cases c0 : 1048576 < mm
             ·have K2 := Lib.hid c0
              clear c0
              go_upto_region 13 with (fail)
              refine region_held_all (fun X => Blk X g 37 hd.L.toArray ∧ Below w.heap.size w X) (by kernel_rfl) (by kernel_rfl) (by exact ⟨F2.out.1.below (Below.drew (Below.refl _ _)), F2.out.2.trans (Below.drew (Below.refl _ _))⟩) ?_
              refine zH (.pointer (some ⟨g, 0, none⟩)) (fun w h => heldRun_value (by kernel_rfl) h) ?_
              refine zH (.int .i64 hd.wr) (fun w h => heldRun_value (run_load_one _ _ _ 3 _ _ rfl (g) (0) rfl (hcell h.1 (Hdr.c0)) (by kernel_rfl)) h) ?_
              refine zH (.int .i64 (kw : Int)) (fun w h => heldRun_value (run_subi Try.underlying3 rfl rfl rfl _ (by rw [KW.out.1]; have := KW.out.2.1; exact wrap_in _ (by omega) (by omega))) h) ?_
              refine zH (.pointer (some ⟨g, 54, none⟩)) (fun w h => heldRun_value (by kernel_rfl) h) ?_
              refine zH (.pointer (some ⟨g, 54 + kw, none⟩)) (fun w h => heldRun_value (run_idx23 _ _ _ _ _ g 54 kw rfl rfl rfl KW.out.2.1) h) ?_
              refine zH (.int .u64 kv) (fun w h => heldRun_value (run_load_one _ _ _ 22 _ _ rfl (g) (54 + kw) rfl ((hcell h.1 (Hdr.ck HO.out kw KW.out.2.1)).trans (by rw [KV.out])) (by kernel_rfl)) h) ?_
              refine zH (.pointer (some ⟨g, 1, none⟩)) (fun w h => heldRun_value (by kernel_rfl) h) ?_
              refine zH (.int .u64 hd.sq) (fun w h => heldRun_value (run_load_one _ _ _ 22 _ _ rfl (g) (1) rfl (hcell h.1 (Hdr.c1)) (by kernel_rfl)) h) ?_
              refine zH (.int .u64 (hd.sq - 1)) (fun w h => heldRun_value (run_subi Try.underlying22 rfl rfl rfl _ (wrap_u64 _ (by have := S1.out; omega) (by have := HO.out.sb; omega))) h) ?_
              refine zH (.bool false) (fun w h => heldRun_value (run_nei Try.underlying22 rfl rfl rfl (by have := K1.out; rw [decide_eq_false_iff_not]; omega)) h) ?_
              refine zH (.bool false) (fun w h => heldRun_value (by kernel_rfl) h) ?_
              refine zH (.pointer (some ⟨g, 54, none⟩)) (fun w h => heldRun_value (by kernel_rfl) h) ?_
              refine zH (.slice (some ⟨g, 54, none⟩) 6 6) (fun w h => heldRun_value (by kernel_rfl) h) ?_
              refine wpHeld_call (.int .u64 mm) 30 #[.slice (some ⟨g, 54, none⟩) 6 6] rfl (fun w => by kernel_rfl) (fun X h => (max_any X g 54 (fun k => hd.kn.getD k 0) (fun k hk => hcell h.1 (Hdr.ck HO.out k hk))).mono fun e V he => ⟨by rw [he.1, MM.out], he.2.symm ▸ h⟩) ?_
              simp only [Act.put, List.setIfInBounds_toArray, List.set_cons_zero, List.set_cons_succ]
              refine zH (.bool true) (fun w h => heldRun_value (run_gti Try.underlying22 rfl rfl rfl (by have := K2.out; rw [decide_eq_true_eq]; omega)) h) ?_
              refine zH (.bool true) (fun w h => heldRun_value (by kernel_rfl) h) ?_
              refine zH (.bool true) (fun w h => heldRun_value (by kernel_rfl) h) ?_
              refine wpHeld_nil ?_
              intro X h
              have F3 := Lib.hid h
              clear h F2
              go_upto_region 14 with (fail)
              refine wp_region_lit ?_
              refine zP (.bool false) ?_
              go_wp2_with fail
              go_ret
              exact ⟨false, rfl, ⟨fun q => (by cases q), fun q => absurd q (fun q => by have r := (mxN_le (fun k => hd.kn.getD k 0) 1048576 5).2 (fun j hj => q.km j (by omega)); rw [MM.out] at r; have := K2.out; omega)⟩, F3.out.2⟩
             ·have K2 := Lib.hid c0
              clear c0
              go_upto_region 13 with (fail)
              refine region_held_all (fun X => Blk X g 37 hd.L.toArray ∧ Below w.heap.size w X) (by kernel_rfl) (by kernel_rfl) (by exact ⟨F2.out.1.below (Below.drew (Below.refl _ _)), F2.out.2.trans (Below.drew (Below.refl _ _))⟩) ?_
              refine zH (.pointer (some ⟨g, 0, none⟩)) (fun w h => heldRun_value (by kernel_rfl) h) ?_
              refine zH (.int .i64 hd.wr) (fun w h => heldRun_value (run_load_one _ _ _ 3 _ _ rfl (g) (0) rfl (hcell h.1 (Hdr.c0)) (by kernel_rfl)) h) ?_
              refine zH (.int .i64 (kw : Int)) (fun w h => heldRun_value (run_subi Try.underlying3 rfl rfl rfl _ (by rw [KW.out.1]; have := KW.out.2.1; exact wrap_in _ (by omega) (by omega))) h) ?_
              refine zH (.pointer (some ⟨g, 54, none⟩)) (fun w h => heldRun_value (by kernel_rfl) h) ?_
              refine zH (.pointer (some ⟨g, 54 + kw, none⟩)) (fun w h => heldRun_value (run_idx23 _ _ _ _ _ g 54 kw rfl rfl rfl KW.out.2.1) h) ?_
              refine zH (.int .u64 kv) (fun w h => heldRun_value (run_load_one _ _ _ 22 _ _ rfl (g) (54 + kw) rfl ((hcell h.1 (Hdr.ck HO.out kw KW.out.2.1)).trans (by rw [KV.out])) (by kernel_rfl)) h) ?_
              refine zH (.pointer (some ⟨g, 1, none⟩)) (fun w h => heldRun_value (by kernel_rfl) h) ?_
              refine zH (.int .u64 hd.sq) (fun w h => heldRun_value (run_load_one _ _ _ 22 _ _ rfl (g) (1) rfl (hcell h.1 (Hdr.c1)) (by kernel_rfl)) h) ?_
              refine zH (.int .u64 (hd.sq - 1)) (fun w h => heldRun_value (run_subi Try.underlying22 rfl rfl rfl _ (wrap_u64 _ (by have := S1.out; omega) (by have := HO.out.sb; omega))) h) ?_
              refine zH (.bool false) (fun w h => heldRun_value (run_nei Try.underlying22 rfl rfl rfl (by have := K1.out; rw [decide_eq_false_iff_not]; omega)) h) ?_
              refine zH (.bool false) (fun w h => heldRun_value (by kernel_rfl) h) ?_
              refine zH (.pointer (some ⟨g, 54, none⟩)) (fun w h => heldRun_value (by kernel_rfl) h) ?_
              refine zH (.slice (some ⟨g, 54, none⟩) 6 6) (fun w h => heldRun_value (by kernel_rfl) h) ?_
              refine wpHeld_call (.int .u64 mm) 30 #[.slice (some ⟨g, 54, none⟩) 6 6] rfl (fun w => by kernel_rfl) (fun X h => (max_any X g 54 (fun k => hd.kn.getD k 0) (fun k hk => hcell h.1 (Hdr.ck HO.out k hk))).mono fun e V he => ⟨by rw [he.1, MM.out], he.2.symm ▸ h⟩) ?_
              simp only [Act.put, List.setIfInBounds_toArray, List.set_cons_zero, List.set_cons_succ]
              refine zH (.bool false) (fun w h => heldRun_value (run_gti Try.underlying22 rfl rfl rfl (by have := K2.out; rw [decide_eq_false_iff_not]; omega)) h) ?_
              refine zH (.bool false) (fun w h => heldRun_value (by kernel_rfl) h) ?_
              refine zH (.bool false) (fun w h => heldRun_value (by kernel_rfl) h) ?_
              refine wpHeld_nil ?_
              intro X h
              have F3 := Lib.hid h
              clear h F2
              obtain ⟨ns, hns⟩ : ∃ q, IntKind.i64.wrap (hd.sz - 16) = q := ⟨_, rfl⟩
              have NS := Lib.hid hns
              clear hns
              go_upto_region 15 with (fail)
              refine wp_region_lit ?_
              refine zP (.pointer (some ⟨g, 92, none⟩)) ?_
              refine zQ (.int .i64 hd.sz) (run_load_one _ _ _ 3 _ _ rfl (g) (92) rfl (hcell F3.out.1 (Hdr.c92 HO.out)) (by kernel_rfl)) ?_
              refine zQ (.int .i64 ns) (run_subi Try.underlying3 rfl rfl rfl _ (NS.out)) ?_
              refine wpL_call 31 #[.int .i64 ns] rfl (by kernel_rfl) ((is_any ns X).mono ?_)
              rintro e w9 ⟨z, rfl, hz, rfl⟩
              have HZ := Lib.hid hz
              clear hz
              refine ⟨_, rfl, ?_⟩
              simp only [Act.put, List.setIfInBounds_toArray, List.set_cons_zero, List.set_cons_succ]
              refine zP (.bool z) ?_
              unfold wpList
              go_wp2_with fail
              go_ret
              have ez : bkt ns ↔ bkt (hd.sz - 16) := by rw [← NS.out]; exact wrap_bkt HO.out.zb
              exact ⟨z, rfl, ⟨fun q => ⟨by have := W1.out; have := W2.out; omega, by have := S1.out; have := S2.out; omega, fun q => absurd q Q1.out, by have := E1.out; have := E2.out; omega, by have := E3.out; omega, (fun q => by rw [HC.out] at q; cases q), by have := T1.out; omega, SZ.out.1 (by simp), by rw [KW.out.2.2, KV.out]; exact K1.out, fun j hj => (mxN_le (fun k => hd.kn.getD k 0) 1048576 5).1 (by rw [MM.out]; have := K2.out; omega) j (by omega), ez.1 (HZ.out.1 q)⟩, fun q => HZ.out.2 (ez.2 q.sz)⟩, F3.out.2⟩
            ·have K1 := Lib.hid c0
             clear c0
             go_upto_region 13 with (fail)
             refine region_held_all (fun X => Blk X g 37 hd.L.toArray ∧ Below w.heap.size w X) (by kernel_rfl) (by kernel_rfl) (by exact ⟨F2.out.1.below (Below.drew (Below.refl _ _)), F2.out.2.trans (Below.drew (Below.refl _ _))⟩) ?_
             refine zH (.pointer (some ⟨g, 0, none⟩)) (fun w h => heldRun_value (by kernel_rfl) h) ?_
             refine zH (.int .i64 hd.wr) (fun w h => heldRun_value (run_load_one _ _ _ 3 _ _ rfl (g) (0) rfl (hcell h.1 (Hdr.c0)) (by kernel_rfl)) h) ?_
             refine zH (.int .i64 (kw : Int)) (fun w h => heldRun_value (run_subi Try.underlying3 rfl rfl rfl _ (by rw [KW.out.1]; have := KW.out.2.1; exact wrap_in _ (by omega) (by omega))) h) ?_
             refine zH (.pointer (some ⟨g, 54, none⟩)) (fun w h => heldRun_value (by kernel_rfl) h) ?_
             refine zH (.pointer (some ⟨g, 54 + kw, none⟩)) (fun w h => heldRun_value (run_idx23 _ _ _ _ _ g 54 kw rfl rfl rfl KW.out.2.1) h) ?_
             refine zH (.int .u64 kv) (fun w h => heldRun_value (run_load_one _ _ _ 22 _ _ rfl (g) (54 + kw) rfl ((hcell h.1 (Hdr.ck HO.out kw KW.out.2.1)).trans (by rw [KV.out])) (by kernel_rfl)) h) ?_
             refine zH (.pointer (some ⟨g, 1, none⟩)) (fun w h => heldRun_value (by kernel_rfl) h) ?_
             refine zH (.int .u64 hd.sq) (fun w h => heldRun_value (run_load_one _ _ _ 22 _ _ rfl (g) (1) rfl (hcell h.1 (Hdr.c1)) (by kernel_rfl)) h) ?_
             refine zH (.int .u64 (hd.sq - 1)) (fun w h => heldRun_value (run_subi Try.underlying22 rfl rfl rfl _ (wrap_u64 _ (by have := S1.out; omega) (by have := HO.out.sb; omega))) h) ?_
             refine zH (.bool true) (fun w h => heldRun_value (run_nei Try.underlying22 rfl rfl rfl (by have := K1.out; rw [decide_eq_true_eq]; omega)) h) ?_
             refine zH (.bool true) (fun w h => heldRun_value (by kernel_rfl) h) ?_
             refine zJ ?_
             refine zJ ?_
             refine zJ ?_
             refine zJ ?_
             refine zH (.bool true) (fun w h => heldRun_value (by kernel_rfl) h) ?_
             refine zH (.bool true) (fun w h => heldRun_value (by kernel_rfl) h) ?_
             refine wpHeld_nil ?_
             intro X h
             have F3 := Lib.hid h
             clear h F2
             go_upto_region 14 with (fail)
             refine wp_region_lit ?_
             refine zP (.bool false) ?_
             go_wp2_with fail
             go_ret
             exact ⟨false, rfl, ⟨fun q => (by cases q), fun q => absurd q (fun q => by have := q.kn; rw [KW.out.2.2, KV.out] at this; exact K1.out this)⟩, F3.out.2⟩
         ·by_cases c0 : hd.it = (List.replicate 16 0)
          ·have I1 := Lib.hid c0
           clear c0
           by_cases c0 : 0 < hd.tn
           ·have I2 := Lib.hid c0
            clear c0
            go_upto_region 9 with (fail)
            refine wp_region_lit ?_
            refine zP (.pointer (some ⟨g, 35, none⟩)) ?_
            refine zQ (.bool true) (run_load_one _ _ _ 4 _ _ rfl (g) (35) rfl (hcell F1.out.1 ((Hdr.c35 HO.out).trans (by rw [HC.out]))) (by kernel_rfl)) ?_
            refine zP (.bool true) ?_
            refine zP (.pointer (some ⟨g, 37, none⟩)) ?_
            refine zQ (.agg (u8l hd.it).toArray) (run_load_mid _ _ _ 34 _ rfl g 37 rfl (u8l hd.it) _ (Hdr.rit HO.out F1.out.1) Try.underlying34 rfl (by rw [u8l_len, HO.out.il]; kernel_rfl)) ?_
            refine zP (.agg (u8l (List.replicate 16 0)).toArray) ?_
            refine zQ (.bool false) (run_ne16 _ _ _ _ _ hd.it (List.replicate 16 0) false HO.out.il List.length_replicate rfl rfl rfl (by rw [decide_eq_true I1.out]; rfl)) ?_
            refine zP (.bool false) ?_
            refine zP (.pointer (some ⟨g, 53, none⟩)) ?_
            refine zQ (.slice hd.ta hd.tn hd.tc) (run_load_one _ _ _ 35 _ _ rfl (g) (53) rfl (hcell F1.out.1 (Hdr.c53 HO.out)) (by kernel_rfl)) ?_
            refine zP (.int .i64 (hd.tn : Int)) ?_
            refine zQ (.bool true) (run_gti Try.underlying3 rfl rfl rfl (by have := I2.out; rw [decide_eq_true_eq]; omega)) ?_
            refine zP (.bool true) ?_
            refine zP (.bool true) ?_
            refine zP (.bool true) ?_
            go_upto_region 10 with (fail)
            refine wp_region_lit ?_
            refine zP (.bool false) ?_
            go_wp2_with fail
            go_ret
            exact ⟨false, rfl, ⟨fun q => (by cases q), fun q => absurd q (fun q => by have := I2.out; have := (q.ct HC.out).2; omega)⟩, F1.out.2.1⟩
           ·have I2 := Lib.hid c0
            clear c0
            go_upto_region 9 with (fail)
            refine wp_region_lit ?_
            refine zP (.pointer (some ⟨g, 35, none⟩)) ?_
            refine zQ (.bool true) (run_load_one _ _ _ 4 _ _ rfl (g) (35) rfl (hcell F1.out.1 ((Hdr.c35 HO.out).trans (by rw [HC.out]))) (by kernel_rfl)) ?_
            refine zP (.bool true) ?_
            refine zP (.pointer (some ⟨g, 37, none⟩)) ?_
            refine zQ (.agg (u8l hd.it).toArray) (run_load_mid _ _ _ 34 _ rfl g 37 rfl (u8l hd.it) _ (Hdr.rit HO.out F1.out.1) Try.underlying34 rfl (by rw [u8l_len, HO.out.il]; kernel_rfl)) ?_
            refine zP (.agg (u8l (List.replicate 16 0)).toArray) ?_
            refine zQ (.bool false) (run_ne16 _ _ _ _ _ hd.it (List.replicate 16 0) false HO.out.il List.length_replicate rfl rfl rfl (by rw [decide_eq_true I1.out]; rfl)) ?_
            refine zP (.bool false) ?_
            refine zP (.pointer (some ⟨g, 53, none⟩)) ?_
            refine zQ (.slice hd.ta hd.tn hd.tc) (run_load_one _ _ _ 35 _ _ rfl (g) (53) rfl (hcell F1.out.1 (Hdr.c53 HO.out)) (by kernel_rfl)) ?_
            refine zP (.int .i64 (hd.tn : Int)) ?_
            refine zQ (.bool false) (run_gti Try.underlying3 rfl rfl rfl (by have := I2.out; rw [decide_eq_false_iff_not]; omega)) ?_
            refine zP (.bool false) ?_
            refine zP (.bool false) ?_
            refine zP (.bool false) ?_
            by_cases c0 : 8 < hd.tn
            ·have T1 := Lib.hid c0
             clear c0
             go_upto_region 11 with (fail)
             refine wp_region_lit ?_
             refine zP (.pointer (some ⟨g, 53, none⟩)) ?_
             refine zQ (.slice hd.ta hd.tn hd.tc) (run_load_one _ _ _ 35 _ _ rfl (g) (53) rfl (hcell F1.out.1 (Hdr.c53 HO.out)) (by kernel_rfl)) ?_
             refine zP (.int .i64 (hd.tn : Int)) ?_
             refine zQ (.bool true) (run_gti Try.underlying3 rfl rfl rfl (by have := T1.out; rw [decide_eq_true_eq]; omega)) ?_
             refine zP (.bool true) ?_
             refine zG ?_
             refine zG ?_
             refine zG ?_
             refine zG ?_
             refine zP (.bool true) ?_
             refine zP (.bool true) ?_
             go_upto_region 12 with (fail)
             refine wp_region_lit ?_
             refine zP (.bool false) ?_
             go_wp2_with fail
             go_ret
             exact ⟨false, rfl, ⟨fun q => (by cases q), fun q => absurd q (fun q => by have := T1.out; have := q.tn; omega)⟩, F1.out.2.1⟩
            ·have T1 := Lib.hid c0
             clear c0
             go_upto_region 11 with (fail)
             refine wp_region_lit ?_
             refine zP (.pointer (some ⟨g, 53, none⟩)) ?_
             refine zQ (.slice hd.ta hd.tn hd.tc) (run_load_one _ _ _ 35 _ _ rfl (g) (53) rfl (hcell F1.out.1 (Hdr.c53 HO.out)) (by kernel_rfl)) ?_
             refine zP (.int .i64 (hd.tn : Int)) ?_
             refine zQ (.bool false) (run_gti Try.underlying3 rfl rfl rfl (by have := T1.out; rw [decide_eq_false_iff_not]; omega)) ?_
             refine zP (.bool false) ?_
             refine zP (.pointer (some ⟨g, 53, none⟩)) ?_
             refine zQ (.slice hd.ta hd.tn hd.tc) (run_load_one _ _ _ 35 _ _ rfl (g) (53) rfl (hcell F1.out.1 (Hdr.c53 HO.out)) (by kernel_rfl)) ?_
             refine wpL_call 29 #[.slice hd.ta hd.tn hd.tc] rfl (by kernel_rfl) ((sorted_any w1 hd.ta hd.tn hd.tc T F1.out.2.2).mono ?_)
             rintro e w2 ⟨z, rfl, hz, hb⟩
             have F2 : Hid (Blk w2 g 37 hd.L.toArray ∧ Below w.heap.size w w2) := Lib.hid ⟨F1.out.1.below hb, F1.out.2.1.trans (hb.mono F1.out.2.1.size)⟩
             have SZ := Lib.hid hz
             clear hz hb
             refine ⟨_, rfl, ?_⟩
             simp only [Act.put, List.setIfInBounds_toArray, List.set_cons_zero, List.set_cons_succ]
             cases z
             ·refine zP (.bool true) ?_
              refine zP (.bool true) ?_
              refine zP (.bool true) ?_
              unfold wpList
              go_upto_region 12 with (fail)
              refine wp_region_lit ?_
              refine zP (.bool false) ?_
              go_wp2_with fail
              go_ret
              exact ⟨false, rfl, ⟨fun q => (by cases q), fun q => absurd (SZ.out.2 q.so) (by simp)⟩, F2.out.2⟩
             ·refine zP (.bool false) ?_
              refine zP (.bool false) ?_
              refine zP (.bool false) ?_
              unfold wpList
              obtain ⟨kw, hkw⟩ : ∃ k : Nat, hd.wr - 1 = (k : Int) := ⟨(hd.wr - 1).toNat, by have := W1.out; omega⟩
              have KW : Hid (hd.wr - 1 = (kw : Int) ∧ kw < 6 ∧ (hd.wr - 1).toNat = kw) := Lib.hid ⟨hkw, by have := W2.out; omega, by omega⟩
              clear hkw
              obtain ⟨kv, hkv⟩ : ∃ q, hd.kn.getD kw 0 = q := ⟨_, rfl⟩
              have KV := Lib.hid hkv
              clear hkv
              obtain ⟨mm, hmm⟩ : ∃ q, mxN (fun k => hd.kn.getD k 0) 5 = q := ⟨_, rfl⟩
              have MM := Lib.hid hmm
              clear hmm
              by_cases c0 : kv = hd.sq - 1
              ·have K1 := Lib.hid c0
               clear c0
               by_cases c0 : 1048576 < mm
               ·have K2 := Lib.hid c0
                clear c0
                go_upto_region 13 with (fail)
                refine region_held_all (fun X => Blk X g 37 hd.L.toArray ∧ Below w.heap.size w X) (by kernel_rfl) (by kernel_rfl) (by exact ⟨F2.out.1.below (Below.drew (Below.refl _ _)), F2.out.2.trans (Below.drew (Below.refl _ _))⟩) ?_
                refine zH (.pointer (some ⟨g, 0, none⟩)) (fun w h => heldRun_value (by kernel_rfl) h) ?_
                refine zH (.int .i64 hd.wr) (fun w h => heldRun_value (run_load_one _ _ _ 3 _ _ rfl (g) (0) rfl (hcell h.1 (Hdr.c0)) (by kernel_rfl)) h) ?_
                refine zH (.int .i64 (kw : Int)) (fun w h => heldRun_value (run_subi Try.underlying3 rfl rfl rfl _ (by rw [KW.out.1]; have := KW.out.2.1; exact wrap_in _ (by omega) (by omega))) h) ?_
                refine zH (.pointer (some ⟨g, 54, none⟩)) (fun w h => heldRun_value (by kernel_rfl) h) ?_
                refine zH (.pointer (some ⟨g, 54 + kw, none⟩)) (fun w h => heldRun_value (run_idx23 _ _ _ _ _ g 54 kw rfl rfl rfl KW.out.2.1) h) ?_
                refine zH (.int .u64 kv) (fun w h => heldRun_value (run_load_one _ _ _ 22 _ _ rfl (g) (54 + kw) rfl ((hcell h.1 (Hdr.ck HO.out kw KW.out.2.1)).trans (by rw [KV.out])) (by kernel_rfl)) h) ?_
                refine zH (.pointer (some ⟨g, 1, none⟩)) (fun w h => heldRun_value (by kernel_rfl) h) ?_
                refine zH (.int .u64 hd.sq) (fun w h => heldRun_value (run_load_one _ _ _ 22 _ _ rfl (g) (1) rfl (hcell h.1 (Hdr.c1)) (by kernel_rfl)) h) ?_
                refine zH (.int .u64 (hd.sq - 1)) (fun w h => heldRun_value (run_subi Try.underlying22 rfl rfl rfl _ (wrap_u64 _ (by have := S1.out; omega) (by have := HO.out.sb; omega))) h) ?_
                refine zH (.bool false) (fun w h => heldRun_value (run_nei Try.underlying22 rfl rfl rfl (by have := K1.out; rw [decide_eq_false_iff_not]; omega)) h) ?_
                refine zH (.bool false) (fun w h => heldRun_value (by kernel_rfl) h) ?_
                refine zH (.pointer (some ⟨g, 54, none⟩)) (fun w h => heldRun_value (by kernel_rfl) h) ?_
                refine zH (.slice (some ⟨g, 54, none⟩) 6 6) (fun w h => heldRun_value (by kernel_rfl) h) ?_
                refine wpHeld_call (.int .u64 mm) 30 #[.slice (some ⟨g, 54, none⟩) 6 6] rfl (fun w => by kernel_rfl) (fun X h => (max_any X g 54 (fun k => hd.kn.getD k 0) (fun k hk => hcell h.1 (Hdr.ck HO.out k hk))).mono fun e V he => ⟨by rw [he.1, MM.out], he.2.symm ▸ h⟩) ?_
                simp only [Act.put, List.setIfInBounds_toArray, List.set_cons_zero, List.set_cons_succ]
                refine zH (.bool true) (fun w h => heldRun_value (run_gti Try.underlying22 rfl rfl rfl (by have := K2.out; rw [decide_eq_true_eq]; omega)) h) ?_
                refine zH (.bool true) (fun w h => heldRun_value (by kernel_rfl) h) ?_
                refine zH (.bool true) (fun w h => heldRun_value (by kernel_rfl) h) ?_
                refine wpHeld_nil ?_
                intro X h
                have F3 := Lib.hid h
                clear h F2
                go_upto_region 14 with (fail)
                refine wp_region_lit ?_
                refine zP (.bool false) ?_
                go_wp2_with fail
                go_ret
                exact ⟨false, rfl, ⟨fun q => (by cases q), fun q => absurd q (fun q => by have r := (mxN_le (fun k => hd.kn.getD k 0) 1048576 5).2 (fun j hj => q.km j (by omega)); rw [MM.out] at r; have := K2.out; omega)⟩, F3.out.2⟩
               ·have K2 := Lib.hid c0
                clear c0
                go_upto_region 13 with (fail)
                refine region_held_all (fun X => Blk X g 37 hd.L.toArray ∧ Below w.heap.size w X) (by kernel_rfl) (by kernel_rfl) (by exact ⟨F2.out.1.below (Below.drew (Below.refl _ _)), F2.out.2.trans (Below.drew (Below.refl _ _))⟩) ?_
                refine zH (.pointer (some ⟨g, 0, none⟩)) (fun w h => heldRun_value (by kernel_rfl) h) ?_
                refine zH (.int .i64 hd.wr) (fun w h => heldRun_value (run_load_one _ _ _ 3 _ _ rfl (g) (0) rfl (hcell h.1 (Hdr.c0)) (by kernel_rfl)) h) ?_
                refine zH (.int .i64 (kw : Int)) (fun w h => heldRun_value (run_subi Try.underlying3 rfl rfl rfl _ (by rw [KW.out.1]; have := KW.out.2.1; exact wrap_in _ (by omega) (by omega))) h) ?_
                refine zH (.pointer (some ⟨g, 54, none⟩)) (fun w h => heldRun_value (by kernel_rfl) h) ?_
                refine zH (.pointer (some ⟨g, 54 + kw, none⟩)) (fun w h => heldRun_value (run_idx23 _ _ _ _ _ g 54 kw rfl rfl rfl KW.out.2.1) h) ?_
                refine zH (.int .u64 kv) (fun w h => heldRun_value (run_load_one _ _ _ 22 _ _ rfl (g) (54 + kw) rfl ((hcell h.1 (Hdr.ck HO.out kw KW.out.2.1)).trans (by rw [KV.out])) (by kernel_rfl)) h) ?_
                refine zH (.pointer (some ⟨g, 1, none⟩)) (fun w h => heldRun_value (by kernel_rfl) h) ?_
                refine zH (.int .u64 hd.sq) (fun w h => heldRun_value (run_load_one _ _ _ 22 _ _ rfl (g) (1) rfl (hcell h.1 (Hdr.c1)) (by kernel_rfl)) h) ?_
                refine zH (.int .u64 (hd.sq - 1)) (fun w h => heldRun_value (run_subi Try.underlying22 rfl rfl rfl _ (wrap_u64 _ (by have := S1.out; omega) (by have := HO.out.sb; omega))) h) ?_
                refine zH (.bool false) (fun w h => heldRun_value (run_nei Try.underlying22 rfl rfl rfl (by have := K1.out; rw [decide_eq_false_iff_not]; omega)) h) ?_
                refine zH (.bool false) (fun w h => heldRun_value (by kernel_rfl) h) ?_
                refine zH (.pointer (some ⟨g, 54, none⟩)) (fun w h => heldRun_value (by kernel_rfl) h) ?_
                refine zH (.slice (some ⟨g, 54, none⟩) 6 6) (fun w h => heldRun_value (by kernel_rfl) h) ?_
                refine wpHeld_call (.int .u64 mm) 30 #[.slice (some ⟨g, 54, none⟩) 6 6] rfl (fun w => by kernel_rfl) (fun X h => (max_any X g 54 (fun k => hd.kn.getD k 0) (fun k hk => hcell h.1 (Hdr.ck HO.out k hk))).mono fun e V he => ⟨by rw [he.1, MM.out], he.2.symm ▸ h⟩) ?_
                simp only [Act.put, List.setIfInBounds_toArray, List.set_cons_zero, List.set_cons_succ]
                refine zH (.bool false) (fun w h => heldRun_value (run_gti Try.underlying22 rfl rfl rfl (by have := K2.out; rw [decide_eq_false_iff_not]; omega)) h) ?_
                refine zH (.bool false) (fun w h => heldRun_value (by kernel_rfl) h) ?_
                refine zH (.bool false) (fun w h => heldRun_value (by kernel_rfl) h) ?_
                refine wpHeld_nil ?_
                intro X h
                have F3 := Lib.hid h
                clear h F2
                obtain ⟨ns, hns⟩ : ∃ q, IntKind.i64.wrap (hd.sz - 16) = q := ⟨_, rfl⟩
                have NS := Lib.hid hns
                clear hns
                go_upto_region 15 with (fail)
                refine wp_region_lit ?_
                refine zP (.pointer (some ⟨g, 92, none⟩)) ?_
                refine zQ (.int .i64 hd.sz) (run_load_one _ _ _ 3 _ _ rfl (g) (92) rfl (hcell F3.out.1 (Hdr.c92 HO.out)) (by kernel_rfl)) ?_
                refine zQ (.int .i64 ns) (run_subi Try.underlying3 rfl rfl rfl _ (NS.out)) ?_
                refine wpL_call 31 #[.int .i64 ns] rfl (by kernel_rfl) ((is_any ns X).mono ?_)
                rintro e w9 ⟨z, rfl, hz, rfl⟩
                have HZ := Lib.hid hz
                clear hz
                refine ⟨_, rfl, ?_⟩
                simp only [Act.put, List.setIfInBounds_toArray, List.set_cons_zero, List.set_cons_succ]
                refine zP (.bool z) ?_
                unfold wpList
                go_wp2_with fail
                go_ret
                have ez : bkt ns ↔ bkt (hd.sz - 16) := by rw [← NS.out]; exact wrap_bkt HO.out.zb
                exact ⟨z, rfl, ⟨fun q => ⟨by have := W1.out; have := W2.out; omega, by have := S1.out; have := S2.out; omega, fun q => absurd q Q1.out, by have := E1.out; have := E2.out; omega, by have := E3.out; omega, fun _ => ⟨I1.out, by have := I2.out; omega⟩, by have := T1.out; omega, SZ.out.1 (by simp), by rw [KW.out.2.2, KV.out]; exact K1.out, fun j hj => (mxN_le (fun k => hd.kn.getD k 0) 1048576 5).1 (by rw [MM.out]; have := K2.out; omega) j (by omega), ez.1 (HZ.out.1 q)⟩, fun q => HZ.out.2 (ez.2 q.sz)⟩, F3.out.2⟩
              ·have K1 := Lib.hid c0
               clear c0
               go_upto_region 13 with (fail)
               refine region_held_all (fun X => Blk X g 37 hd.L.toArray ∧ Below w.heap.size w X) (by kernel_rfl) (by kernel_rfl) (by exact ⟨F2.out.1.below (Below.drew (Below.refl _ _)), F2.out.2.trans (Below.drew (Below.refl _ _))⟩) ?_
               refine zH (.pointer (some ⟨g, 0, none⟩)) (fun w h => heldRun_value (by kernel_rfl) h) ?_
               refine zH (.int .i64 hd.wr) (fun w h => heldRun_value (run_load_one _ _ _ 3 _ _ rfl (g) (0) rfl (hcell h.1 (Hdr.c0)) (by kernel_rfl)) h) ?_
               refine zH (.int .i64 (kw : Int)) (fun w h => heldRun_value (run_subi Try.underlying3 rfl rfl rfl _ (by rw [KW.out.1]; have := KW.out.2.1; exact wrap_in _ (by omega) (by omega))) h) ?_
               refine zH (.pointer (some ⟨g, 54, none⟩)) (fun w h => heldRun_value (by kernel_rfl) h) ?_
               refine zH (.pointer (some ⟨g, 54 + kw, none⟩)) (fun w h => heldRun_value (run_idx23 _ _ _ _ _ g 54 kw rfl rfl rfl KW.out.2.1) h) ?_
               refine zH (.int .u64 kv) (fun w h => heldRun_value (run_load_one _ _ _ 22 _ _ rfl (g) (54 + kw) rfl ((hcell h.1 (Hdr.ck HO.out kw KW.out.2.1)).trans (by rw [KV.out])) (by kernel_rfl)) h) ?_
               refine zH (.pointer (some ⟨g, 1, none⟩)) (fun w h => heldRun_value (by kernel_rfl) h) ?_
               refine zH (.int .u64 hd.sq) (fun w h => heldRun_value (run_load_one _ _ _ 22 _ _ rfl (g) (1) rfl (hcell h.1 (Hdr.c1)) (by kernel_rfl)) h) ?_
               refine zH (.int .u64 (hd.sq - 1)) (fun w h => heldRun_value (run_subi Try.underlying22 rfl rfl rfl _ (wrap_u64 _ (by have := S1.out; omega) (by have := HO.out.sb; omega))) h) ?_
               refine zH (.bool true) (fun w h => heldRun_value (run_nei Try.underlying22 rfl rfl rfl (by have := K1.out; rw [decide_eq_true_eq]; omega)) h) ?_
               refine zH (.bool true) (fun w h => heldRun_value (by kernel_rfl) h) ?_
               refine zJ ?_
               refine zJ ?_
               refine zJ ?_
               refine zJ ?_
               refine zH (.bool true) (fun w h => heldRun_value (by kernel_rfl) h) ?_
               refine zH (.bool true) (fun w h => heldRun_value (by kernel_rfl) h) ?_
               refine wpHeld_nil ?_
               intro X h
               have F3 := Lib.hid h
               clear h F2
               go_upto_region 14 with (fail)
               refine wp_region_lit ?_
               refine zP (.bool false) ?_
               go_wp2_with fail
               go_ret
               exact ⟨false, rfl, ⟨fun q => (by cases q), fun q => absurd q (fun q => by have := q.kn; rw [KW.out.2.2, KV.out] at this; exact K1.out this)⟩, F3.out.2⟩
          ·have I1 := Lib.hid c0
           clear c0
           go_upto_region 9 with (fail)
           refine wp_region_lit ?_
           refine zP (.pointer (some ⟨g, 35, none⟩)) ?_
           refine zQ (.bool true) (run_load_one _ _ _ 4 _ _ rfl (g) (35) rfl (hcell F1.out.1 ((Hdr.c35 HO.out).trans (by rw [HC.out]))) (by kernel_rfl)) ?_
           refine zP (.bool true) ?_
           refine zP (.pointer (some ⟨g, 37, none⟩)) ?_
           refine zQ (.agg (u8l hd.it).toArray) (run_load_mid _ _ _ 34 _ rfl g 37 rfl (u8l hd.it) _ (Hdr.rit HO.out F1.out.1) Try.underlying34 rfl (by rw [u8l_len, HO.out.il]; kernel_rfl)) ?_
           refine zP (.agg (u8l (List.replicate 16 0)).toArray) ?_
           refine zQ (.bool true) (run_ne16 _ _ _ _ _ hd.it (List.replicate 16 0) true HO.out.il List.length_replicate rfl rfl rfl (by rw [decide_eq_false I1.out]; rfl)) ?_
           refine zP (.bool true) ?_
           refine zG ?_
           refine zG ?_
           refine zG ?_
           refine zG ?_
           refine zP (.bool true) ?_
           refine zP (.bool true) ?_
           refine zP (.bool true) ?_
           go_upto_region 10 with (fail)
           refine wp_region_lit ?_
           refine zP (.bool false) ?_
           go_wp2_with fail
           go_ret
           exact ⟨false, rfl, ⟨fun q => (by cases q), fun q => absurd q (fun q => I1.out (q.ct HC.out).1)⟩, F1.out.2.1⟩
end Go.Proofs.Ythkhlkiemldbaaa.K.Ha
