/- 'CellsOpens', from its arguments. -/
import Derived.Test.YteabblmhcjpboaaC18
import Derived.Test.YteabblmhcjpboaaWalkCellsGrows
namespace Go.Proofs.Yteabblmhcjpboaa.D
open Go Go.RowKit
set_option maxRecDepth 100000
theorem run_slrow (a : Act) (o : Oper) (w : World) (x i : Operand) (g n c k : Nat) (ho : o.op = .slice 22 x none (some i) none) (hx : a.eval x = .slice (some ⟨g, 0, none⟩) n c) (hi : a.eval i = .int .i64 (k : Int)) (hk : k ≤ n) (hn : n ≤ c) (hc : c ≤ maxLen) : (execOp a.eval o).run Try.prog w = .ok (.value (.slice (some ⟨g, 0, none⟩) k c)) w := by
  unfold maxLen at hc
  have j1 : (0 : Int) ≤ (k : Int) := by omega
  have j2 : (k : Int) ≤ (c : Int) := by omega
  have j3 : k ≤ c := by omega
  unfold execOp
  simp only [ho, hx, Option.map_some, Option.map_none, hi]
  go_simp
theorem write_ok {w : World} {b gs gm n c : Nat} {L : List (Int × List Int × Nat)} {S : List (List Int)} {fz : Int} (h : DS w b gs gm n L c S false fz false) (k : Nat) (hk : k < n) (a : Option Addr) (cx : Nat) (xs : List Int) (hr : Row w a 64 xs) (ng : ∀ p, a = some p → p.block ≠ b ∧ p.block ≠ gs ∧ p.block ≠ gm) :
    Calls Try.prog 16 #[.pointer (some ⟨b, 0, none⟩), .int .i64 (k : Int), .slice a 64 cx] w fun e w' => e = .returned (.int .i64 0) ∧ (∃ (Lx : List (Int × List Int × Nat)) (dc : Nat) (fz : Int) (S : List (List Int)), DS w' b gs gm n Lx dc S false fz false) ∧ Fd b gs gm w w' :=
  (writeD h (k : Int) a 64 cx xs hr ng).mono fun e w' q => by
    rcases q with ⟨q, _⟩ | ⟨_, q, _⟩ | ⟨_, _, he, k0, s0, _, _, d, fd⟩
    · exact absurd ⟨⟨by omega, by omega⟩, rfl⟩ q
    · have := mayB_no q; cases this
    · exact ⟨he, ⟨_, _, _, _, d⟩, fd⟩
theorem over_any {w : World} {lb b fr rm : Nat} {s c : Nat} {nt : List Int} {v : Value} {ov : Bool} (h : LS w lb b fr rm s c nt v ov) : Calls Try.prog 23 #[.pointer (some ⟨lb, 0, none⟩)] w fun e w' => e = .returned (.bool ov) ∧ Below w.heap.size w w' := (overD h).mono fun e w' ⟨he, hw⟩ => ⟨he, hw ▸ Below.refl _ _⟩
attribute [local irreducible] wpList
set_option maxHeartbeats 8000000
theorem opens_any (w : World) (a : Option Addr) (n ca : Nat) (fr_ sc : Int) (L : List (List Int)) (h : Parts w a n L) (hr : (-9223372036854775808 ≤ fr_ ∧ fr_ ≤ 9223372036854775807) ∧ -9223372036854775808 ≤ sc ∧ sc ≤ 9223372036854775807) : Calls Try.prog 4 #[.slice a n ca, .int .i64 fr_, .int .i64 sc] w fun e w' => e = .returned (.bool true) ∧ Below w.heap.size w w' := by
  have HL := Lib.hid h
  have HR := Lib.hid hr
  clear h hr
  go_enter Try.func4, Try.ntmps4
  go_upto_region 0 with (fail)
  refine wp_region_lit ?_
  refine wpL_pure (.bool false) rfl (by kernel_rfl) ?_
  simp only [Act.put, List.setIfInBounds_toArray, List.set_cons_zero, List.set_cons_succ]
  by_cases hbig : 8 < n
  · have F := Lib.hid hbig
    clear hbig
    go_upto_region 1 with (fail)
    refine wp_region_lit ?_
    refine wpL_call 8 #[] rfl (by kernel_rfl) ((awake_any w).mono fun e W1 ⟨he, bb⟩ => ⟨.bool true, he, ?_⟩)
    simp only [Act.put, List.setIfInBounds_toArray, List.set_cons_zero, List.set_cons_succ]
    have B1 : Hid (Below w.heap.size w W1) := Lib.hid bb
    clear bb
    refine wpL_pure (.bool false) rfl (by kernel_rfl) ?_
    simp only [Act.put, List.setIfInBounds_toArray, List.set_cons_zero, List.set_cons_succ]
    refine wpL_pure (.bool false) rfl (by kernel_rfl) ?_
    simp only [Act.put, List.setIfInBounds_toArray, List.set_cons_zero, List.set_cons_succ]
    refine wpL_pure (.slice a n ca) rfl (by kernel_rfl) ?_
    simp only [Act.put, List.setIfInBounds_toArray, List.set_cons_zero, List.set_cons_succ]
    refine wpL_pure (.int .i64 (n : Int)) rfl (by kernel_rfl) ?_
    simp only [Act.put, List.setIfInBounds_toArray, List.set_cons_zero, List.set_cons_succ]
    refine wpL_pure (.bool true) rfl (run_gti Try.underlying3 rfl rfl rfl (by have := F.out; rw [decide_eq_true_eq]; omega)) ?_
    simp only [Act.put, List.setIfInBounds_toArray, List.set_cons_zero, List.set_cons_succ]
    refine wpL_pure (.bool true) rfl (by kernel_rfl) ?_
    simp only [Act.put, List.setIfInBounds_toArray, List.set_cons_zero, List.set_cons_succ]
    go_upto_region 2 with (fail)
    refine wp_region_lit ?_
    refine wpL_call 8 #[] rfl (by kernel_rfl) ((awake_any W1).mono fun e W2 ⟨he, bb⟩ => ⟨.bool true, he, ?_⟩)
    simp only [Act.put, List.setIfInBounds_toArray, List.set_cons_zero, List.set_cons_succ]
    have B2 : Hid (Below w.heap.size w W2) := Lib.hid (B1.out.trans (bb.mono B1.out.size))
    clear bb
    refine wpL_pure (.bool true) rfl (by kernel_rfl) ?_
    simp only [Act.put, List.setIfInBounds_toArray, List.set_cons_zero, List.set_cons_succ]
    go_wp2_with fail
    go_ret
    exact ⟨rfl, B2.out⟩
  · have F : Hid (n ≤ 8) := Lib.hid (by omega)
    clear hbig
    go_upto_region 1 with (fail)
    refine wp_region_lit ?_
    refine wpL_call 8 #[] rfl (by kernel_rfl) ((awake_any w).mono fun e W1 ⟨he, bb⟩ => ⟨.bool true, he, ?_⟩)
    simp only [Act.put, List.setIfInBounds_toArray, List.set_cons_zero, List.set_cons_succ]
    have B1 : Hid (Below w.heap.size w W1) := Lib.hid bb
    clear bb
    refine wpL_pure (.bool false) rfl (by kernel_rfl) ?_
    simp only [Act.put, List.setIfInBounds_toArray, List.set_cons_zero, List.set_cons_succ]
    refine wpL_pure (.bool false) rfl (by kernel_rfl) ?_
    simp only [Act.put, List.setIfInBounds_toArray, List.set_cons_zero, List.set_cons_succ]
    refine wpL_pure (.slice a n ca) rfl (by kernel_rfl) ?_
    simp only [Act.put, List.setIfInBounds_toArray, List.set_cons_zero, List.set_cons_succ]
    refine wpL_pure (.int .i64 (n : Int)) rfl (by kernel_rfl) ?_
    simp only [Act.put, List.setIfInBounds_toArray, List.set_cons_zero, List.set_cons_succ]
    refine wpL_pure (.bool false) rfl (run_gti Try.underlying3 rfl rfl rfl (by have := F.out; rw [decide_eq_false_iff_not]; omega)) ?_
    simp only [Act.put, List.setIfInBounds_toArray, List.set_cons_zero, List.set_cons_succ]
    refine wpL_pure (.bool false) rfl (by kernel_rfl) ?_
    simp only [Act.put, List.setIfInBounds_toArray, List.set_cons_zero, List.set_cons_succ]
    go_upto_region 3 with (fail)
    refine wp_region_lit ?_
    refine wpL_pure (.slice a n ca) rfl (by kernel_rfl) ?_
    simp only [Act.put, List.setIfInBounds_toArray, List.set_cons_zero, List.set_cons_succ]
    refine wpL_pure (.int .i64 (n : Int)) rfl (by kernel_rfl) ?_
    simp only [Act.put, List.setIfInBounds_toArray, List.set_cons_zero, List.set_cons_succ]
    refine wpL_call 9 #[.int .i64 (n : Int)] rfl (by kernel_rfl) ((newD n (by have := F.out; omega) W1).mono fun e W2 ⟨b, gs, gm, he, d, bb, l1, l2, l3⟩ => ⟨.pointer (some ⟨b, 0, none⟩), he, ?_⟩)
    simp only [Act.put, List.setIfInBounds_toArray, List.set_cons_zero, List.set_cons_succ]
    have F1 : Hid (Below w.heap.size w W2 ∧ DS W2 b gs gm n [] 0 (zs n) false 0 false ∧ w.heap.size ≤ b ∧ w.heap.size ≤ gs ∧ w.heap.size ≤ gm) := Lib.hid (by have z := B1.out.size; exact ⟨B1.out.trans (bb.mono B1.out.size), d, by omega, by omega, by omega⟩)
    clear bb d l1 l2 l3
    refine wpL_pure (.pointer (some ⟨b, 0, none⟩)) rfl (by kernel_rfl) ?_
    simp only [Act.put, List.setIfInBounds_toArray, List.set_cons_zero, List.set_cons_succ]
    go_upto_region 4 with (fail)
    refine wp_region_lit ?_
    refine wpL_pure (.int .i64 0) rfl (by kernel_rfl) ?_
    simp only [Act.put, List.setIfInBounds_toArray, List.set_cons_zero, List.set_cons_succ]
    unfold wpList
    go_wp2_with fail
    go_loopw [8] (fun s8 wr => ∃ k : Nat, s8 = .int .i64 (k : Int) ∧ Hid (k ≤ n ∧ Below w.heap.size w wr ∧ ∃ (Lx : List (Int × List Int × Nat)) (dc : Nat) (fz : Int) (S : List (List Int)), DS wr b gs gm n Lx dc S false fz false)) (fun s8 _ => n - (intOf s8).toNat)
    case atStart => exact ⟨0, rfl, Lib.hid ⟨by omega, F1.out.1, _, _, _, _, F1.out.2.1⟩⟩
    case round =>
      obtain ⟨k, rfl, RI0⟩ := hrel
      obtain ⟨k1, k2, Lx, dc, fz, S, k3⟩ := RI0.out
      have RK := Lib.hid k1
      have RI := Lib.hid (And.intro k2 k3)
      clear RI0 k1 k2 k3
      by_cases hlt : k < n
      · have HK := Lib.hid hlt
        clear hlt
        obtain ⟨g, o, ea, hm, hp⟩ := HL.out.at HK.out
        have EA := Lib.hid ea
        obtain ⟨pa, pn, pc, ys, hy, hc, hs⟩ := hp
        have HC := Lib.hid hc
        have HS := Lib.hid hs
        have HM := Lib.hid hm
        clear ea hm hy hc hs
        go_upto_region 5 with (fail)
        refine wp_region_lit ?_
        refine wpL_pure (.int .i64 (k : Int)) rfl (by kernel_rfl) ?_
        simp only [Act.put, List.setIfInBounds_toArray, List.set_cons_zero, List.set_cons_succ]
        refine wpL_pure (.slice a n ca) rfl (by kernel_rfl) ?_
        simp only [Act.put, List.setIfInBounds_toArray, List.set_cons_zero, List.set_cons_succ]
        refine wpL_pure (.int .i64 (n : Int)) rfl (by kernel_rfl) ?_
        simp only [Act.put, List.setIfInBounds_toArray, List.set_cons_zero, List.set_cons_succ]
        refine wpL_pure (.bool true) rfl (run_lti Try.underlying3 rfl rfl rfl (by have := HK.out; rw [decide_eq_true_eq]; omega)) ?_
        simp only [Act.put, List.setIfInBounds_toArray, List.set_cons_zero, List.set_cons_succ]
        go_upto_region 7 with (fail)
        refine wp_region_lit ?_
        refine wpL_pure (.pointer (some ⟨b, 0, none⟩)) rfl (by kernel_rfl) ?_
        simp only [Act.put, List.setIfInBounds_toArray, List.set_cons_zero, List.set_cons_succ]
        refine wpL_pure (.int .i64 (k : Int)) rfl (by kernel_rfl) ?_
        simp only [Act.put, List.setIfInBounds_toArray, List.set_cons_zero, List.set_cons_succ]
        refine wpL_pure (.slice a n ca) rfl (by kernel_rfl) ?_
        simp only [Act.put, List.setIfInBounds_toArray, List.set_cons_zero, List.set_cons_succ]
        refine wpL_pure (.int .i64 (k : Int)) rfl (by kernel_rfl) ?_
        simp only [Act.put, List.setIfInBounds_toArray, List.set_cons_zero, List.set_cons_succ]
        refine wpL_pure (.pointer (some ⟨g, o + k, none⟩)) rfl (run_idxp _ _ _ _ _ g o n ca k rfl (by rw [EA.out]; rfl) rfl HK.out HM.out) ?_
        simp only [Act.put, List.setIfInBounds_toArray, List.set_cons_zero, List.set_cons_succ]
        refine wpL_pure (.slice pa pn pc) rfl (run_load_one _ _ _ 26 _ _ rfl (g) (o + k) rfl (cell_keep HC.out RI.out.1) (by kernel_rfl)) ?_
        simp only [Act.put, List.setIfInBounds_toArray, List.set_cons_zero, List.set_cons_succ]
        refine wpL_call 17 #[.int .u8 0, .slice pa pn pc] rfl (by kernel_rfl) ((full_any wr 0 (by omega) pa pn pc ys (HS.out.1.keep RI.out.1)).mono fun e W5 ⟨v9, he, ho, bb⟩ => ⟨v9, he, ?_⟩)
        simp only [Act.put, List.setIfInBounds_toArray, List.set_cons_zero, List.set_cons_succ]
        obtain ⟨g9, c9, e9, r9, _, _, m9⟩ := own_slice64 ho (fullL_len _ _ _)
        subst e9
        have F5 : Hid (Below w.heap.size w W5 ∧ DS W5 b gs gm n Lx dc S false fz false ∧ Row W5 (some ⟨g9, 0, none⟩) 64 (fullL 0 ys 64) ∧ g9 ≠ b ∧ g9 ≠ gs ∧ g9 ≠ gm) := Lib.hid (by have l := RI.out.2.lts; exact ⟨RI.out.1.trans (bb.mono RI.out.1.size), RI.out.2.below bb, r9, by omega, by omega, by omega⟩)
        clear ho bb r9 m9
        refine wpL_call 16 #[.pointer (some ⟨b, 0, none⟩), .int .i64 (k : Int), .slice (some ⟨g9, 0, none⟩) 64 c9] rfl (by kernel_rfl) ((write_ok F5.out.2.1 k HK.out (some ⟨g9, 0, none⟩) c9 _ F5.out.2.2.1 (fun p hp => by cases hp; exact F5.out.2.2.2)).mono fun e W6 ⟨he, hd, fd⟩ => ⟨(.int .i64 0), he, ?_⟩)
        simp only [Act.put, List.setIfInBounds_toArray, List.set_cons_zero, List.set_cons_succ]
        have F6 : Hid (Below w.heap.size w W6 ∧ ∃ (Lx : List (Int × List Int × Nat)) (dc : Nat) (fz : Int) (S : List (List Int)), DS W6 b gs gm n Lx dc S false fz false) := Lib.hid ⟨fd.below F5.out.1 F1.out.2.2.1 F1.out.2.2.2.1 F1.out.2.2.2.2, hd⟩
        clear hd fd
        go_upto_region 6 with (fail)
        refine wp_region_lit ?_
        refine wpL_pure (.int .i64 (k : Int)) rfl (by kernel_rfl) ?_
        simp only [Act.put, List.setIfInBounds_toArray, List.set_cons_zero, List.set_cons_succ]
        refine wpL_pure (.int .i64 ((k + 1 : Nat) : Int)) rfl (run_addi Try.underlying3 rfl rfl rfl _ (by have := HK.out; have := F.out; rw [wrap_in _ (by omega) (by omega)]; omega)) ?_
        simp only [Act.put, List.setIfInBounds_toArray, List.set_cons_zero, List.set_cons_succ]
        refine wpL_pure (.int .i64 ((k + 1 : Nat) : Int)) rfl (by kernel_rfl) ?_
        simp only [Act.put, List.setIfInBounds_toArray, List.set_cons_zero, List.set_cons_succ]
        have NX : Hid (k + 1 ≤ n ∧ Below w.heap.size w W6 ∧ ∃ (Lx : List (Int × List Int × Nat)) (dc : Nat) (fz : Int) (S : List (List Int)), DS W6 b gs gm n Lx dc S false fz false) := Lib.hid ⟨HK.out, F6.out⟩
        unfold wpList
        go_roundw
        case rel => first | exact ⟨_, rfl, NX⟩ | ((repeat apply Exists.intro); exact ⟨⟨_, rfl, NX⟩, rfl⟩)
        case measure => simp [intOf]; have := HK.out; omega
      · have EK : Hid (k = n) := Lib.hid (by have := RK.out; omega)
        clear hlt
        go_upto_region 5 with (fail)
        refine wp_region_lit ?_
        refine wpL_pure (.int .i64 (k : Int)) rfl (by kernel_rfl) ?_
        simp only [Act.put, List.setIfInBounds_toArray, List.set_cons_zero, List.set_cons_succ]
        refine wpL_pure (.slice a n ca) rfl (by kernel_rfl) ?_
        simp only [Act.put, List.setIfInBounds_toArray, List.set_cons_zero, List.set_cons_succ]
        refine wpL_pure (.int .i64 (n : Int)) rfl (by kernel_rfl) ?_
        simp only [Act.put, List.setIfInBounds_toArray, List.set_cons_zero, List.set_cons_succ]
        refine wpL_pure (.bool false) rfl (run_lti Try.underlying3 rfl rfl rfl (by have := EK.out; rw [decide_eq_false_iff_not]; omega)) ?_
        simp only [Act.put, List.setIfInBounds_toArray, List.set_cons_zero, List.set_cons_succ]
        by_cases hg : 3 ≤ sc ∧ 0 ≤ fr_ ∧ fr_ + sc ≤ (n : Int)
        · obtain ⟨fr, rfl⟩ : ∃ k : Nat, fr_ = (k : Int) := ⟨fr_.toNat, by omega⟩
          obtain ⟨rm, rfl⟩ : ∃ k : Nat, sc = ((k + 2 : Nat) : Int) := ⟨sc.toNat - 2, by omega⟩
          have HG : Hid (1 ≤ rm ∧ fr + (rm + 2) ≤ n) := Lib.hid (by omega)
          clear hg
          have HX := Lib.hid trivial
          go_upto_region 8 with (fail)
          refine wp_region_lit ?_
          refine wpL_pure (.pointer (some ⟨b, 0, none⟩)) rfl (by kernel_rfl) ?_
          simp only [Act.put, List.setIfInBounds_toArray, List.set_cons_zero, List.set_cons_succ]
          refine wpL_pure (.int .i64 ((fr : Nat) : Int)) rfl (by kernel_rfl) ?_
          simp only [Act.put, List.setIfInBounds_toArray, List.set_cons_zero, List.set_cons_succ]
          refine wpL_pure (.int .i64 ((rm + 2 : Nat) : Int)) rfl (by kernel_rfl) ?_
          simp only [Act.put, List.setIfInBounds_toArray, List.set_cons_zero, List.set_cons_succ]
          refine wpL_call 10 #[.pointer (some ⟨b, 0, none⟩), .int .i64 ((fr : Nat) : Int), .int .i64 ((rm + 2 : Nat) : Int)] rfl (by kernel_rfl) ((open_ok RI.out.2 fr rm HG.out.1 HG.out.2).mono ?_)
          rintro e W3 ⟨lb, s, nt, bs, va, vc, he, hl, op, bb, l1, l2⟩
          have F3 : Hid (Below w.heap.size w W3 ∧ DS W3 b gs gm n Lx dc S false fz false ∧ LG W3 b gs gm n fr rm lb s nt bs va vc ∧ OpenIs S fr rm s nt bs) := Lib.hid ⟨RI.out.1.trans (bb.mono RI.out.1.size), RI.out.2.below bb, hl, op⟩
          clear hl op bb l1 l2
          refine ⟨.tuple #[.pointer (some ⟨lb, 0, none⟩), .int .i64 0], he, ?_⟩
          simp only [Act.put, List.setIfInBounds_toArray, List.set_cons_zero, List.set_cons_succ]
          clear he
          refine wpL_pure (.tuple #[.pointer (some ⟨lb, 0, none⟩), .int .i64 0]) rfl (by kernel_rfl) ?_
          simp only [Act.put, List.setIfInBounds_toArray, List.set_cons_zero, List.set_cons_succ]
          refine wpL_pure (.pointer (some ⟨lb, 0, none⟩)) rfl (by kernel_rfl) ?_
          simp only [Act.put, List.setIfInBounds_toArray, List.set_cons_zero, List.set_cons_succ]
          refine wpL_pure (.int .i64 0) rfl (by kernel_rfl) ?_
          simp only [Act.put, List.setIfInBounds_toArray, List.set_cons_zero, List.set_cons_succ]
          refine wpL_pure (.pointer (some ⟨lb, 0, none⟩)) rfl (by kernel_rfl) ?_
          simp only [Act.put, List.setIfInBounds_toArray, List.set_cons_zero, List.set_cons_succ]
          refine wpL_pure (.int .i64 0) rfl (by kernel_rfl) ?_
          simp only [Act.put, List.setIfInBounds_toArray, List.set_cons_zero, List.set_cons_succ]
          go_upto_region 9 with (fail)
          refine wp_region_lit ?_
          refine wpL_pure (.int .i64 ((rm + 2 : Nat) : Int)) rfl (by kernel_rfl) ?_
          simp only [Act.put, List.setIfInBounds_toArray, List.set_cons_zero, List.set_cons_succ]
          refine wpL_pure (.bool false) rfl (run_lti Try.underlying3 rfl rfl rfl (by have := HG.out; have := F.out; rw [decide_eq_false_iff_not]; omega)) ?_
          simp only [Act.put, List.setIfInBounds_toArray, List.set_cons_zero, List.set_cons_succ]
          refine wpL_pure (.bool false) rfl (by kernel_rfl) ?_
          simp only [Act.put, List.setIfInBounds_toArray, List.set_cons_zero, List.set_cons_succ]
          refine wpL_pure (.int .i64 ((fr : Nat) : Int)) rfl (by kernel_rfl) ?_
          simp only [Act.put, List.setIfInBounds_toArray, List.set_cons_zero, List.set_cons_succ]
          refine wpL_pure (.bool false) rfl (run_lti Try.underlying3 rfl rfl rfl (by have := HG.out; have := F.out; rw [decide_eq_false_iff_not]; omega)) ?_
          simp only [Act.put, List.setIfInBounds_toArray, List.set_cons_zero, List.set_cons_succ]
          refine wpL_pure (.bool false) rfl (by kernel_rfl) ?_
          simp only [Act.put, List.setIfInBounds_toArray, List.set_cons_zero, List.set_cons_succ]
          refine wpL_pure (.bool false) rfl (by kernel_rfl) ?_
          simp only [Act.put, List.setIfInBounds_toArray, List.set_cons_zero, List.set_cons_succ]
          refine wpL_pure (.int .i64 ((fr : Nat) : Int)) rfl (by kernel_rfl) ?_
          simp only [Act.put, List.setIfInBounds_toArray, List.set_cons_zero, List.set_cons_succ]
          refine wpL_pure (.slice a n ca) rfl (by kernel_rfl) ?_
          simp only [Act.put, List.setIfInBounds_toArray, List.set_cons_zero, List.set_cons_succ]
          refine wpL_pure (.int .i64 (n : Int)) rfl (by kernel_rfl) ?_
          simp only [Act.put, List.setIfInBounds_toArray, List.set_cons_zero, List.set_cons_succ]
          refine wpL_pure (.bool false) rfl (run_gti Try.underlying3 rfl rfl rfl (by have := HG.out; have := F.out; rw [decide_eq_false_iff_not]; omega)) ?_
          simp only [Act.put, List.setIfInBounds_toArray, List.set_cons_zero, List.set_cons_succ]
          refine wpL_pure (.bool false) rfl (by kernel_rfl) ?_
          simp only [Act.put, List.setIfInBounds_toArray, List.set_cons_zero, List.set_cons_succ]
          refine wpL_pure (.bool false) rfl (by kernel_rfl) ?_
          simp only [Act.put, List.setIfInBounds_toArray, List.set_cons_zero, List.set_cons_succ]
          refine wpL_pure (.int .i64 ((rm + 2 : Nat) : Int)) rfl (by kernel_rfl) ?_
          simp only [Act.put, List.setIfInBounds_toArray, List.set_cons_zero, List.set_cons_succ]
          refine wpL_pure (.slice a n ca) rfl (by kernel_rfl) ?_
          simp only [Act.put, List.setIfInBounds_toArray, List.set_cons_zero, List.set_cons_succ]
          refine wpL_pure (.int .i64 (n : Int)) rfl (by kernel_rfl) ?_
          simp only [Act.put, List.setIfInBounds_toArray, List.set_cons_zero, List.set_cons_succ]
          refine wpL_pure (.int .i64 ((fr : Nat) : Int)) rfl (by kernel_rfl) ?_
          simp only [Act.put, List.setIfInBounds_toArray, List.set_cons_zero, List.set_cons_succ]
          refine wpL_pure (.int .i64 ((n : Int) - ((fr : Nat) : Int))) rfl (run_subi Try.underlying3 rfl rfl rfl _ (by have := HG.out; have := F.out; rw [wrap_in _ (by omega) (by omega)])) ?_
          simp only [Act.put, List.setIfInBounds_toArray, List.set_cons_zero, List.set_cons_succ]
          refine wpL_pure (.bool false) rfl (run_gti Try.underlying3 rfl rfl rfl (by have := HG.out; have := F.out; rw [decide_eq_false_iff_not]; omega)) ?_
          simp only [Act.put, List.setIfInBounds_toArray, List.set_cons_zero, List.set_cons_succ]
          refine wpL_pure (.bool false) rfl (by kernel_rfl) ?_
          simp only [Act.put, List.setIfInBounds_toArray, List.set_cons_zero, List.set_cons_succ]
          go_upto_region 11 with (fail)
          refine wp_region_lit ?_
          refine wpL_pure (.int .i64 0) rfl (by kernel_rfl) ?_
          simp only [Act.put, List.setIfInBounds_toArray, List.set_cons_zero, List.set_cons_succ]
          refine wpL_pure (.bool false) rfl (by kernel_rfl) ?_
          simp only [Act.put, List.setIfInBounds_toArray, List.set_cons_zero, List.set_cons_succ]
          go_upto_region 13 with (fail)
          refine wp_region_lit ?_
          refine wpL_pure (.pointer (some ⟨b, 0, none⟩)) rfl (by kernel_rfl) ?_
          simp only [Act.put, List.setIfInBounds_toArray, List.set_cons_zero, List.set_cons_succ]
          refine wpL_pure (.int .i64 ((fr : Nat) : Int)) rfl (by kernel_rfl) ?_
          simp only [Act.put, List.setIfInBounds_toArray, List.set_cons_zero, List.set_cons_succ]
          refine wpL_call 19 #[.pointer (some ⟨b, 0, none⟩), .int .i64 ((fr : Nat) : Int)] rfl (by kernel_rfl) ((secs_any F3.out.2.1 fr (by have := HG.out; omega)).mono ?_)
          rintro e W4 ⟨v, vals, he, bb, ow, lr⟩
          have LD : (S.drop fr).length = n - fr := by rw [List.length_drop, F3.out.2.1.2.2.2.1]
          obtain ⟨gr, cr, ev, c1, c2, sr⟩ := sr_of ow lr (by have := HG.out; omega) (rm + 2) (by have := HG.out; omega)
          rw [LD] at ev c1
          subst ev
          have F4 : Hid (Below w.heap.size w W4 ∧ DS W4 b gs gm n Lx dc S false fz false ∧ LG W4 b gs gm n fr rm lb s nt bs va vc ∧ SR W4 gr (rm + 2) ((S.drop fr).take (rm + 2))) := Lib.hid ⟨F3.out.1.trans (bb.mono F3.out.1.size), F3.out.2.1.below bb, F3.out.2.2.1.below bb, sr⟩
          have CR : Hid (n - fr ≤ cr ∧ cr ≤ maxLen) := Lib.hid ⟨c1, c2⟩
          clear LD bb ow lr c1 c2 sr
          refine ⟨.slice (some ⟨gr, 0, none⟩) (n - fr) cr, he, ?_⟩
          simp only [Act.put, List.setIfInBounds_toArray, List.set_cons_zero, List.set_cons_succ]
          clear he
          refine wpL_pure (.int .i64 ((rm + 2 : Nat) : Int)) rfl (by kernel_rfl) ?_
          simp only [Act.put, List.setIfInBounds_toArray, List.set_cons_zero, List.set_cons_succ]
          refine wpL_pure (.slice (some ⟨gr, 0, none⟩) (rm + 2) cr) rfl (run_slrow _ _ _ _ _ gr (n - fr) cr (rm + 2) rfl rfl rfl (by have := HG.out; omega) CR.out.1 CR.out.2) ?_
          simp only [Act.put, List.setIfInBounds_toArray, List.set_cons_zero, List.set_cons_succ]
          refine wpL_call 18 #[.slice (some ⟨gr, 0, none⟩) (rm + 2) cr] rfl (by kernel_rfl) ((of_any W4 gr (rm + 2) cr rm _ F4.out.2.2.2 ⟨rfl, HG.out.1, by have := HG.out; have := F.out; omega⟩).mono ?_)
          rintro e W5 ⟨s', nt', bs', ua, uc, he, bb, ow, op, hn, _⟩
          obtain ⟨rfl, rfl, rfl⟩ := (F3.out.2.2.2.cutL F4.out.2.2.1.2.2.1).inj op
          have F5 : Hid (Below w.heap.size w W5 ∧ LG W5 b gs gm n fr rm lb s nt bs va vc ∧ Own W5 W4.heap.size (.slice ua bs.length uc) bs ∧ NtOk nt) := Lib.hid ⟨F4.out.1.trans (bb.mono F4.out.1.size), F4.out.2.2.1.below bb, ow, hn⟩
          clear bb ow op hn
          refine ⟨.agg (stV s nt (.slice ua bs.length uc)).toArray, he, ?_⟩
          simp only [Act.put, List.setIfInBounds_toArray, List.set_cons_zero, List.set_cons_succ]
          clear he
          obtain ⟨W6, hW6⟩ : ∃ V, V = W5.alloc (.cells (stV 0 (List.replicate 16 0) (.slice none 0 0)).toArray 42) := ⟨_, rfl⟩
          refine wpL_value (.pointer (some ⟨W5.heap.size, 0, none⟩)) W6 rfl (by rw [hW6]; kernel_rfl) ?_
          simp only [Act.put, List.setIfInBounds_toArray, List.set_cons_zero, List.set_cons_succ]
          obtain ⟨g11, hg11⟩ : ∃ q, W5.heap.size = q := ⟨_, rfl⟩
          have F6 : Hid (Below w.heap.size w W6 ∧ LG W6 b gs gm n fr rm lb s nt bs va vc ∧ Own W6 W4.heap.size (.slice ua bs.length uc) bs ∧ Blk W6 g11 42 (stV 0 (List.replicate 16 0) (.slice none 0 0)).toArray ∧ g11 = W5.heap.size) := Lib.hid (by have bb : Below W5.heap.size W5 W6 := (by rw [hW6]; exact (Below.refl _ _).alloc (Nat.le_refl _) _); exact ⟨F5.out.1.trans (bb.mono F5.out.1.size), F5.out.2.1.below bb, F5.out.2.2.1.below bb, by rw [hW6, ← hg11]; exact Blk.new _ _ _, hg11.symm⟩)
          rw [hg11]
          clear hW6 hg11
          refine wpList_store_row rfl 42 _ _ rfl g11 (stV s nt (.slice ua bs.length uc)).toArray rfl rfl 42 _ F6.out.2.2.2.1 (by simp only [List.size_toArray, st_len F5.out.2.2.2] <;> kernel_rfl) (by simp only [List.size_toArray, st_len F5.out.2.2.2] <;> rfl) (st_one _ _ _ _ _) ?_
          simp only [Act.put, List.setIfInBounds_toArray, List.set_cons_zero, List.set_cons_succ]
          obtain ⟨W7, hW7⟩ : ∃ V, V = W6.setRow g11 (stV s nt (.slice ua bs.length uc)).toArray := ⟨_, rfl⟩
          rw [← hW7]
          have BZ : Hid (w.heap.size ≤ g11 ∧ lb < g11 ∧ (∀ k, (Value.slice va bs.length vc).ownBlock = some k → k < g11) ∧ ∀ k, (Value.slice ua bs.length uc).ownBlock = some k → k < g11) := Lib.hid (by have e := F6.out.2.2.2.2; have z := F5.out.1.size; exact ⟨by omega, by have := F5.out.2.1.1.1.lt; omega, fun k hk => by have := (F5.out.2.1.2.1.lt k hk).2; omega, fun k hk => by have := (F5.out.2.2.1.lt k hk).2; omega⟩)
          have F7 : Hid (Below w.heap.size w W7 ∧ LG W7 b gs gm n fr rm lb s nt bs va vc ∧ Own W7 W4.heap.size (.slice ua bs.length uc) bs ∧ Blk W7 g11 42 (stV s nt (.slice ua bs.length uc)).toArray) := Lib.hid (by have bz := BZ.out; rw [hW7]; exact ⟨below_setRow F6.out.1 bz.1 _, F6.out.2.1.far (p := fun k => k = g11) (Fl.gb (row_gb W6 g11 _) (fun k hk _ => (Option.some.inj hk).symm)) (fun q => by omega) (fun k hk q => by have := bz.2.2.1 k hk; omega), F6.out.2.2.1.grown (row_gb W6 g11 _) (.inr (fun q => by have := bz.2.2.2 g11 q; omega)), setRow_heap _ _ _ _ _ _ F6.out.2.2.2.1⟩)
          clear hW7
          have F8 : Hid (Below w.heap.size w W7.drew ∧ LG W7.drew b gs gm n fr rm lb s nt bs va vc ∧ Own W7.drew W4.heap.size (.slice ua bs.length uc) bs ∧ Blk W7.drew g11 42 (stV s nt (.slice ua bs.length uc)).toArray) := Lib.hid (by have bd : Below W7.heap.size W7 W7.drew := (Below.refl _ W7).drew; exact ⟨F7.out.1.drew, F7.out.2.1.below bd, F7.out.2.2.1.below bd, F7.out.2.2.2⟩)
          have NN := Lib.hid F5.out.2.2.2
          go_upto_region 14 with (fail)
          refine region_anyT (fun X => Blk X g11 42 (stV s nt (.slice ua bs.length uc)).toArray ∧ True) (by kernel_rfl) 22 22 rfl ?_
          refine wpAnyT_take (i := 0) (oi := ⟨some 78, _, _, _, _, _⟩) (v := .pointer (some ⟨lb, 0, none⟩)) rfl (by kernel_rfl) (by kernel_rfl) (by kernel_rfl) (fun _ _ _ h => h) (by kernel_rfl) (Or.inl ⟨rfl, fun w h => by kernel_rfl⟩) (⟨F8.out.2.2.2, trivial⟩) ?_
          simp only [Act.put, List.setIfInBounds_toArray, List.set_cons_zero, List.set_cons_succ]
          refine wpAnyT_take (i := 2) (oi := ⟨some 80, _, _, _, _, _⟩) (v := .agg (stV s nt (.slice ua bs.length uc)).toArray) rfl (by kernel_rfl) (by kernel_rfl) (by kernel_rfl) (fun _ _ _ h => h) (by kernel_rfl) (Or.inl ⟨rfl, fun w h => run_load_mid _ _ _ 42 _ rfl g11 0 rfl (stV s nt (.slice ua bs.length uc)) _ (blk_range' h.1) Try.underlying42 rfl (by simp only [List.size_toArray, st_len NN.out] <;> kernel_rfl)⟩) (⟨F8.out.2.2.2, trivial⟩) ?_
          simp only [Act.put, List.setIfInBounds_toArray, List.set_cons_zero, List.set_cons_succ]
          refine wpAnyT_one (i := 1) (by kernel_rfl) ?_
          refine op_call (o := ⟨some 79, _, _, _, _, _⟩) 21 #[.pointer (some ⟨lb, 0, none⟩)] rfl rfl (by kernel_rfl) ((state_any (ov := false) F8.out.2.1.1 F8.out.2.1.2.1 rfl (by have := F8.out.2.1.2.2.1; have := HG.out; have := F.out; omega)).mono fun e W9 h => ?_)
          obtain ⟨xa, xc, he, bb, ow⟩ := h
          have F9 : Hid (Below w.heap.size w W9 ∧ LG W9 b gs gm n fr rm lb s nt bs va vc ∧ Own W9 W4.heap.size (.slice ua bs.length uc) bs ∧ Blk W9 g11 42 (stV s nt (.slice ua bs.length uc)).toArray ∧ Own W9 W7.drew.heap.size (.slice xa bs.length xc) bs) := Lib.hid ⟨F8.out.1.trans (bb.mono F8.out.1.size), F8.out.2.1.below bb, F8.out.2.2.1.below bb, F8.out.2.2.2.below bb, ow⟩
          clear bb ow
          refine ⟨.agg (stV s nt (.slice xa bs.length xc)).toArray, he, fun _ => ⟨F9.out.2.2.2.1, trivial⟩, ?_⟩
          simp only [Act.put, List.setIfInBounds_toArray, List.set_cons_zero, List.set_cons_succ]
          clear he
          refine wpAnyT_one (i := 3) (by kernel_rfl) ?_
          refine op_call (o := ⟨some 81, _, _, _, _, _⟩) 20 #[.agg (stV s nt (.slice xa bs.length xc)).toArray, .agg (stV s nt (.slice ua bs.length uc)).toArray] rfl rfl (by kernel_rfl) ((same_any W9 s s bs.length bs.length xc uc nt nt bs bs xa ua NN.out NN.out (fit_own F9.out.2.2.2.2) (fit_own F9.out.2.2.1)).mono fun e W10 h => ?_)
          obtain ⟨he, bb⟩ := h
          have F10 : Hid (Below w.heap.size w W10 ∧ LG W10 b gs gm n fr rm lb s nt bs va vc ∧ Blk W10 g11 42 (stV s nt (.slice ua bs.length uc)).toArray) := Lib.hid ⟨F9.out.1.trans (bb.mono F9.out.1.size), F9.out.2.1.below bb, F9.out.2.2.2.1.below bb⟩
          clear bb
          refine ⟨.bool true, he.trans (by simp), fun _ => ⟨F10.out.2.2, trivial⟩, ?_⟩
          simp only [Act.put, List.setIfInBounds_toArray, List.set_cons_zero, List.set_cons_succ]
          clear he
          refine wpAnyT_take (i := 4) (oi := ⟨some 82, _, _, _, _, _⟩) (v := .bool true) rfl (by kernel_rfl) (by kernel_rfl) (by kernel_rfl) (fun _ _ _ h => h) (by kernel_rfl) (Or.inl ⟨rfl, fun w h => by kernel_rfl⟩) (⟨F10.out.2.2, trivial⟩) ?_
          simp only [Act.put, List.setIfInBounds_toArray, List.set_cons_zero, List.set_cons_succ]
          refine wpAnyT_take (i := 5) (oi := ⟨some 83, _, _, _, _, _⟩) (v := .pointer (some ⟨lb, 0, none⟩)) rfl (by kernel_rfl) (by kernel_rfl) (by kernel_rfl) (fun _ _ _ h => h) (by kernel_rfl) (Or.inl ⟨rfl, fun w h => by kernel_rfl⟩) (⟨F10.out.2.2, trivial⟩) ?_
          simp only [Act.put, List.setIfInBounds_toArray, List.set_cons_zero, List.set_cons_succ]
          refine wpAnyT_take (i := 7) (oi := ⟨some 85, _, _, _, _, _⟩) (v := .int .i64 ((rm + 2 : Nat) : Int)) rfl (by kernel_rfl) (by kernel_rfl) (by kernel_rfl) (fun _ _ _ h => h) (by kernel_rfl) (Or.inl ⟨rfl, fun w h => by kernel_rfl⟩) (⟨F10.out.2.2, trivial⟩) ?_
          simp only [Act.put, List.setIfInBounds_toArray, List.set_cons_zero, List.set_cons_succ]
          refine wpAnyT_take (i := 8) (oi := ⟨some 86, _, _, _, _, _⟩) (v := .int .i64 (rm : Int)) rfl (by kernel_rfl) (by kernel_rfl) (by kernel_rfl) (fun _ _ _ h => h) (by kernel_rfl) (Or.inl ⟨rfl, fun w h => run_subi Try.underlying3 rfl rfl rfl _ (by have := HG.out; have := F.out; rw [wrap_in _ (by omega) (by omega)]; omega)⟩) (⟨F10.out.2.2, trivial⟩) ?_
          simp only [Act.put, List.setIfInBounds_toArray, List.set_cons_zero, List.set_cons_succ]
          refine wpAnyT_take (i := 9) (oi := ⟨some 87, _, _, _, _, _⟩) (v := .int .i64 (64 * (rm : Int))) rfl (by kernel_rfl) (by kernel_rfl) (by kernel_rfl) (fun _ _ _ h => h) (by kernel_rfl) (Or.inl ⟨rfl, fun w h => run_muli Try.underlying3 rfl rfl rfl _ (by have := HG.out; have := F.out; rw [wrap_in _ (by omega) (by omega)])⟩) (⟨F10.out.2.2, trivial⟩) ?_
          simp only [Act.put, List.setIfInBounds_toArray, List.set_cons_zero, List.set_cons_succ]
          refine wpAnyT_take (i := 10) (oi := ⟨some 88, _, _, _, _, _⟩) (v := .pointer (some ⟨g11, 17, none⟩)) rfl (by kernel_rfl) (by kernel_rfl) (by kernel_rfl) (fun _ _ _ h => h) (by kernel_rfl) (Or.inl ⟨rfl, fun w h => by kernel_rfl⟩) (⟨F10.out.2.2, trivial⟩) ?_
          simp only [Act.put, List.setIfInBounds_toArray, List.set_cons_zero, List.set_cons_succ]
          refine wpAnyT_take (i := 11) (oi := ⟨some 89, _, _, _, _, _⟩) (v := .slice ua bs.length uc) rfl (by kernel_rfl) (by kernel_rfl) (by kernel_rfl) (fun _ _ _ h => h) (by kernel_rfl) (Or.inl ⟨rfl, fun w h => run_load_one _ _ _ 26 _ _ rfl g11 17 rfl (st_last h.1 NN.out) (by kernel_rfl)⟩) (⟨F10.out.2.2, trivial⟩) ?_
          simp only [Act.put, List.setIfInBounds_toArray, List.set_cons_zero, List.set_cons_succ]
          refine wpAnyT_take (i := 12) (oi := ⟨some 90, _, _, _, _, _⟩) (v := .int .i64 (bs.length : Int)) rfl (by kernel_rfl) (by kernel_rfl) (by kernel_rfl) (fun _ _ _ h => h) (by kernel_rfl) (Or.inl ⟨rfl, fun w h => by kernel_rfl⟩) (⟨F10.out.2.2, trivial⟩) ?_
          simp only [Act.put, List.setIfInBounds_toArray, List.set_cons_zero, List.set_cons_succ]
          refine wpAnyT_take (i := 13) (oi := ⟨some 91, _, _, _, _, _⟩) (v := .int .i64 (64 * (rm : Int) - (bs.length : Int))) rfl (by kernel_rfl) (by kernel_rfl) (by kernel_rfl) (fun _ _ _ h => h) (by kernel_rfl) (Or.inl ⟨rfl, fun w h => run_subi Try.underlying3 rfl rfl rfl _ (by have := HG.out; have := F.out; have := F8.out.2.1.2.2.1; rw [wrap_in _ (by omega) (by omega)])⟩) (⟨F10.out.2.2, trivial⟩) ?_
          simp only [Act.put, List.setIfInBounds_toArray, List.set_cons_zero, List.set_cons_succ]
          refine wpAnyT_one (i := 6) (by kernel_rfl) ?_
          refine op_call (o := ⟨some 84, _, _, _, _, _⟩) 22 #[.pointer (some ⟨lb, 0, none⟩)] rfl rfl (by kernel_rfl) ((roomD F10.out.2.1.1 va bs.length vc rfl (by have := F8.out.2.1.2.2.1; have := HG.out; have := F.out; omega)).mono fun e W11 h => ?_)
          obtain ⟨he, bb⟩ := h
          have F11 : Hid (Below w.heap.size w W11 ∧ LG W11 b gs gm n fr rm lb s nt bs va vc ∧ Blk W11 g11 42 (stV s nt (.slice ua bs.length uc)).toArray) := Lib.hid ⟨F10.out.1.trans (bb.mono F10.out.1.size), F10.out.2.1.below bb, F10.out.2.2.below bb⟩
          clear bb
          refine ⟨.int .i64 ((rm : Int) * 64 - (bs.length : Int)), he, fun _ => ⟨F11.out.2.2, trivial⟩, ?_⟩
          simp only [Act.put, List.setIfInBounds_toArray, List.set_cons_zero, List.set_cons_succ]
          clear he
          refine wpAnyT_take (i := 14) (oi := ⟨some 92, _, _, _, _, _⟩) (v := .bool true) rfl (by kernel_rfl) (by kernel_rfl) (by kernel_rfl) (fun _ _ _ h => h) (by kernel_rfl) (Or.inl ⟨rfl, fun w h => run_eqi Try.underlying3 rfl rfl rfl (by have := HG.out; rw [decide_eq_true_eq]; omega)⟩) (⟨F11.out.2.2, trivial⟩) ?_
          simp only [Act.put, List.setIfInBounds_toArray, List.set_cons_zero, List.set_cons_succ]
          refine wpAnyT_take (i := 15) (oi := ⟨some 93, _, _, _, _, _⟩) (v := .bool true) rfl (by kernel_rfl) (by kernel_rfl) (by kernel_rfl) (fun _ _ _ h => h) (by kernel_rfl) (Or.inl ⟨rfl, fun w h => by kernel_rfl⟩) (⟨F11.out.2.2, trivial⟩) ?_
          simp only [Act.put, List.setIfInBounds_toArray, List.set_cons_zero, List.set_cons_succ]
          refine wpAnyT_take (i := 16) (oi := ⟨some 94, _, _, _, _, _⟩) (v := .bool true) rfl (by kernel_rfl) (by kernel_rfl) (by kernel_rfl) (fun _ _ _ h => h) (by kernel_rfl) (Or.inl ⟨rfl, fun w h => by kernel_rfl⟩) (⟨F11.out.2.2, trivial⟩) ?_
          simp only [Act.put, List.setIfInBounds_toArray, List.set_cons_zero, List.set_cons_succ]
          refine wpAnyT_take (i := 17) (oi := ⟨some 95, _, _, _, _, _⟩) (v := .pointer (some ⟨lb, 0, none⟩)) rfl (by kernel_rfl) (by kernel_rfl) (by kernel_rfl) (fun _ _ _ h => h) (by kernel_rfl) (Or.inl ⟨rfl, fun w h => by kernel_rfl⟩) (⟨F11.out.2.2, trivial⟩) ?_
          simp only [Act.put, List.setIfInBounds_toArray, List.set_cons_zero, List.set_cons_succ]
          refine wpAnyT_one (i := 18) (by kernel_rfl) ?_
          refine op_call (o := ⟨some 96, _, _, _, _, _⟩) 23 #[.pointer (some ⟨lb, 0, none⟩)] rfl rfl (by kernel_rfl) ((over_any F11.out.2.1.1).mono fun e W12 h => ?_)
          obtain ⟨he, bb⟩ := h
          have F12 : Hid (Below w.heap.size w W12 ∧ LG W12 b gs gm n fr rm lb s nt bs va vc ∧ Blk W12 g11 42 (stV s nt (.slice ua bs.length uc)).toArray) := Lib.hid ⟨F11.out.1.trans (bb.mono F11.out.1.size), F11.out.2.1.below bb, F11.out.2.2.below bb⟩
          clear bb
          refine ⟨.bool false, he, fun _ => ⟨F12.out.2.2, trivial⟩, ?_⟩
          simp only [Act.put, List.setIfInBounds_toArray, List.set_cons_zero, List.set_cons_succ]
          clear he
          refine wpAnyT_take (i := 19) (oi := ⟨some 97, _, _, _, _, _⟩) (v := .bool true) rfl (by kernel_rfl) (by kernel_rfl) (by kernel_rfl) (fun _ _ _ h => h) (by kernel_rfl) (Or.inl ⟨rfl, fun w h => by kernel_rfl⟩) (⟨F12.out.2.2, trivial⟩) ?_
          simp only [Act.put, List.setIfInBounds_toArray, List.set_cons_zero, List.set_cons_succ]
          refine wpAnyT_take (i := 20) (oi := ⟨some 98, _, _, _, _, _⟩) (v := .bool true) rfl (by kernel_rfl) (by kernel_rfl) (by kernel_rfl) (fun _ _ _ h => h) (by kernel_rfl) (Or.inl ⟨rfl, fun w h => by kernel_rfl⟩) (⟨F12.out.2.2, trivial⟩) ?_
          simp only [Act.put, List.setIfInBounds_toArray, List.set_cons_zero, List.set_cons_succ]
          refine wpAnyT_take (i := 21) (oi := ⟨some 6, _, _, _, _, _⟩) (v := .bool true) rfl (by kernel_rfl) (by kernel_rfl) (by kernel_rfl) (fun _ _ _ h => h) (by kernel_rfl) (Or.inl ⟨rfl, fun w h => by kernel_rfl⟩) (⟨F12.out.2.2, trivial⟩) ?_
          simp only [Act.put, List.setIfInBounds_toArray, List.set_cons_zero, List.set_cons_succ]
          refine wpAnyT_done (by kernel_rfl) ?_ _
          go_wp2_with fail
          go_ret
          exact ⟨rfl, F12.out.1⟩
        · have HG := Lib.hid hg
          clear hg
          go_upto_region 8 with (fail)
          refine wp_region_lit ?_
          refine wpL_pure (.pointer (some ⟨b, 0, none⟩)) rfl (by kernel_rfl) ?_
          simp only [Act.put, List.setIfInBounds_toArray, List.set_cons_zero, List.set_cons_succ]
          refine wpL_pure (.int .i64 fr_) rfl (by kernel_rfl) ?_
          simp only [Act.put, List.setIfInBounds_toArray, List.set_cons_zero, List.set_cons_succ]
          refine wpL_pure (.int .i64 sc) rfl (by kernel_rfl) ?_
          simp only [Act.put, List.setIfInBounds_toArray, List.set_cons_zero, List.set_cons_succ]
          refine wpL_call 10 #[.pointer (some ⟨b, 0, none⟩), .int .i64 fr_, .int .i64 sc] rfl (by kernel_rfl) ((open_bad RI.out.2 fr_ sc HR.out HG.out).mono ?_)
          rintro e W3 ⟨he, rfl⟩
          refine ⟨.tuple #[.pointer none, .int .i64 1], he, ?_⟩
          simp only [Act.put, List.setIfInBounds_toArray, List.set_cons_zero, List.set_cons_succ]
          clear he
          refine wpL_pure (.tuple #[.pointer none, .int .i64 1]) rfl (by kernel_rfl) ?_
          simp only [Act.put, List.setIfInBounds_toArray, List.set_cons_zero, List.set_cons_succ]
          refine wpL_pure (.pointer none) rfl (by kernel_rfl) ?_
          simp only [Act.put, List.setIfInBounds_toArray, List.set_cons_zero, List.set_cons_succ]
          refine wpL_pure (.int .i64 1) rfl (by kernel_rfl) ?_
          simp only [Act.put, List.setIfInBounds_toArray, List.set_cons_zero, List.set_cons_succ]
          refine wpL_pure (.pointer none) rfl (by kernel_rfl) ?_
          simp only [Act.put, List.setIfInBounds_toArray, List.set_cons_zero, List.set_cons_succ]
          refine wpL_pure (.int .i64 1) rfl (by kernel_rfl) ?_
          simp only [Act.put, List.setIfInBounds_toArray, List.set_cons_zero, List.set_cons_succ]
          by_cases h1 : sc < 3
          · have HX := Lib.hid h1
            go_upto_region 9 with (fail)
            refine wp_region_lit ?_
            refine wpL_pure (.int .i64 sc) rfl (by kernel_rfl) ?_
            simp only [Act.put, List.setIfInBounds_toArray, List.set_cons_zero, List.set_cons_succ]
            refine wpL_pure (.bool true) rfl (run_lti Try.underlying3 rfl rfl rfl (by have := HR.out; have := HX.out; have := HG.out; have := F.out; rw [decide_eq_true_eq]; omega)) ?_
            simp only [Act.put, List.setIfInBounds_toArray, List.set_cons_zero, List.set_cons_succ]
            refine wpL_pure (.bool true) rfl (by kernel_rfl) ?_
            simp only [Act.put, List.setIfInBounds_toArray, List.set_cons_zero, List.set_cons_succ]
            refine wpL_skip (by kernel_rfl) ?_
            simp only [Act.put, List.setIfInBounds_toArray, List.set_cons_zero, List.set_cons_succ]
            refine wpL_skip (by kernel_rfl) ?_
            simp only [Act.put, List.setIfInBounds_toArray, List.set_cons_zero, List.set_cons_succ]
            refine wpL_pure (.bool true) rfl (by kernel_rfl) ?_
            simp only [Act.put, List.setIfInBounds_toArray, List.set_cons_zero, List.set_cons_succ]
            refine wpL_pure (.bool true) rfl (by kernel_rfl) ?_
            simp only [Act.put, List.setIfInBounds_toArray, List.set_cons_zero, List.set_cons_succ]
            refine wpL_skip (by kernel_rfl) ?_
            simp only [Act.put, List.setIfInBounds_toArray, List.set_cons_zero, List.set_cons_succ]
            refine wpL_skip (by kernel_rfl) ?_
            simp only [Act.put, List.setIfInBounds_toArray, List.set_cons_zero, List.set_cons_succ]
            refine wpL_skip (by kernel_rfl) ?_
            simp only [Act.put, List.setIfInBounds_toArray, List.set_cons_zero, List.set_cons_succ]
            refine wpL_skip (by kernel_rfl) ?_
            simp only [Act.put, List.setIfInBounds_toArray, List.set_cons_zero, List.set_cons_succ]
            refine wpL_pure (.bool true) rfl (by kernel_rfl) ?_
            simp only [Act.put, List.setIfInBounds_toArray, List.set_cons_zero, List.set_cons_succ]
            refine wpL_pure (.bool true) rfl (by kernel_rfl) ?_
            simp only [Act.put, List.setIfInBounds_toArray, List.set_cons_zero, List.set_cons_succ]
            refine wpL_skip (by kernel_rfl) ?_
            simp only [Act.put, List.setIfInBounds_toArray, List.set_cons_zero, List.set_cons_succ]
            refine wpL_skip (by kernel_rfl) ?_
            simp only [Act.put, List.setIfInBounds_toArray, List.set_cons_zero, List.set_cons_succ]
            refine wpL_skip (by kernel_rfl) ?_
            simp only [Act.put, List.setIfInBounds_toArray, List.set_cons_zero, List.set_cons_succ]
            refine wpL_skip (by kernel_rfl) ?_
            simp only [Act.put, List.setIfInBounds_toArray, List.set_cons_zero, List.set_cons_succ]
            refine wpL_skip (by kernel_rfl) ?_
            simp only [Act.put, List.setIfInBounds_toArray, List.set_cons_zero, List.set_cons_succ]
            refine wpL_skip (by kernel_rfl) ?_
            simp only [Act.put, List.setIfInBounds_toArray, List.set_cons_zero, List.set_cons_succ]
            refine wpL_pure (.bool true) rfl (by kernel_rfl) ?_
            simp only [Act.put, List.setIfInBounds_toArray, List.set_cons_zero, List.set_cons_succ]
            go_upto_region 10 with (fail)
            refine wp_region_lit ?_
            refine wpL_pure (.int .i64 1) rfl (by kernel_rfl) ?_
            simp only [Act.put, List.setIfInBounds_toArray, List.set_cons_zero, List.set_cons_succ]
            refine wpL_pure (.bool true) rfl (by kernel_rfl) ?_
            simp only [Act.put, List.setIfInBounds_toArray, List.set_cons_zero, List.set_cons_succ]
            refine wpL_pure (.bool true) rfl (by kernel_rfl) ?_
            simp only [Act.put, List.setIfInBounds_toArray, List.set_cons_zero, List.set_cons_succ]
            refine wpL_pure (.pointer none) rfl (by kernel_rfl) ?_
            simp only [Act.put, List.setIfInBounds_toArray, List.set_cons_zero, List.set_cons_succ]
            refine wpL_pure (.bool true) rfl (by kernel_rfl) ?_
            simp only [Act.put, List.setIfInBounds_toArray, List.set_cons_zero, List.set_cons_succ]
            refine wpL_pure (.bool true) rfl (by kernel_rfl) ?_
            simp only [Act.put, List.setIfInBounds_toArray, List.set_cons_zero, List.set_cons_succ]
            refine wpL_pure (.bool true) rfl (by kernel_rfl) ?_
            simp only [Act.put, List.setIfInBounds_toArray, List.set_cons_zero, List.set_cons_succ]
            go_wp2_with fail
            go_ret
            exact ⟨rfl, RI.out.1⟩
          · by_cases h2 : fr_ < 0
            · have HX := Lib.hid (And.intro h1 h2)
              go_upto_region 9 with (fail)
              refine wp_region_lit ?_
              refine wpL_pure (.int .i64 sc) rfl (by kernel_rfl) ?_
              simp only [Act.put, List.setIfInBounds_toArray, List.set_cons_zero, List.set_cons_succ]
              refine wpL_pure (.bool false) rfl (run_lti Try.underlying3 rfl rfl rfl (by have := HR.out; have := HX.out; have := HG.out; have := F.out; rw [decide_eq_false_iff_not]; omega)) ?_
              simp only [Act.put, List.setIfInBounds_toArray, List.set_cons_zero, List.set_cons_succ]
              refine wpL_pure (.bool false) rfl (by kernel_rfl) ?_
              simp only [Act.put, List.setIfInBounds_toArray, List.set_cons_zero, List.set_cons_succ]
              refine wpL_pure (.int .i64 fr_) rfl (by kernel_rfl) ?_
              simp only [Act.put, List.setIfInBounds_toArray, List.set_cons_zero, List.set_cons_succ]
              refine wpL_pure (.bool true) rfl (run_lti Try.underlying3 rfl rfl rfl (by have := HR.out; have := HX.out; have := HG.out; have := F.out; rw [decide_eq_true_eq]; omega)) ?_
              simp only [Act.put, List.setIfInBounds_toArray, List.set_cons_zero, List.set_cons_succ]
              refine wpL_pure (.bool true) rfl (by kernel_rfl) ?_
              simp only [Act.put, List.setIfInBounds_toArray, List.set_cons_zero, List.set_cons_succ]
              refine wpL_pure (.bool true) rfl (by kernel_rfl) ?_
              simp only [Act.put, List.setIfInBounds_toArray, List.set_cons_zero, List.set_cons_succ]
              refine wpL_skip (by kernel_rfl) ?_
              simp only [Act.put, List.setIfInBounds_toArray, List.set_cons_zero, List.set_cons_succ]
              refine wpL_skip (by kernel_rfl) ?_
              simp only [Act.put, List.setIfInBounds_toArray, List.set_cons_zero, List.set_cons_succ]
              refine wpL_skip (by kernel_rfl) ?_
              simp only [Act.put, List.setIfInBounds_toArray, List.set_cons_zero, List.set_cons_succ]
              refine wpL_skip (by kernel_rfl) ?_
              simp only [Act.put, List.setIfInBounds_toArray, List.set_cons_zero, List.set_cons_succ]
              refine wpL_pure (.bool true) rfl (by kernel_rfl) ?_
              simp only [Act.put, List.setIfInBounds_toArray, List.set_cons_zero, List.set_cons_succ]
              refine wpL_pure (.bool true) rfl (by kernel_rfl) ?_
              simp only [Act.put, List.setIfInBounds_toArray, List.set_cons_zero, List.set_cons_succ]
              refine wpL_skip (by kernel_rfl) ?_
              simp only [Act.put, List.setIfInBounds_toArray, List.set_cons_zero, List.set_cons_succ]
              refine wpL_skip (by kernel_rfl) ?_
              simp only [Act.put, List.setIfInBounds_toArray, List.set_cons_zero, List.set_cons_succ]
              refine wpL_skip (by kernel_rfl) ?_
              simp only [Act.put, List.setIfInBounds_toArray, List.set_cons_zero, List.set_cons_succ]
              refine wpL_skip (by kernel_rfl) ?_
              simp only [Act.put, List.setIfInBounds_toArray, List.set_cons_zero, List.set_cons_succ]
              refine wpL_skip (by kernel_rfl) ?_
              simp only [Act.put, List.setIfInBounds_toArray, List.set_cons_zero, List.set_cons_succ]
              refine wpL_skip (by kernel_rfl) ?_
              simp only [Act.put, List.setIfInBounds_toArray, List.set_cons_zero, List.set_cons_succ]
              refine wpL_pure (.bool true) rfl (by kernel_rfl) ?_
              simp only [Act.put, List.setIfInBounds_toArray, List.set_cons_zero, List.set_cons_succ]
              go_upto_region 10 with (fail)
              refine wp_region_lit ?_
              refine wpL_pure (.int .i64 1) rfl (by kernel_rfl) ?_
              simp only [Act.put, List.setIfInBounds_toArray, List.set_cons_zero, List.set_cons_succ]
              refine wpL_pure (.bool true) rfl (by kernel_rfl) ?_
              simp only [Act.put, List.setIfInBounds_toArray, List.set_cons_zero, List.set_cons_succ]
              refine wpL_pure (.bool true) rfl (by kernel_rfl) ?_
              simp only [Act.put, List.setIfInBounds_toArray, List.set_cons_zero, List.set_cons_succ]
              refine wpL_pure (.pointer none) rfl (by kernel_rfl) ?_
              simp only [Act.put, List.setIfInBounds_toArray, List.set_cons_zero, List.set_cons_succ]
              refine wpL_pure (.bool true) rfl (by kernel_rfl) ?_
              simp only [Act.put, List.setIfInBounds_toArray, List.set_cons_zero, List.set_cons_succ]
              refine wpL_pure (.bool true) rfl (by kernel_rfl) ?_
              simp only [Act.put, List.setIfInBounds_toArray, List.set_cons_zero, List.set_cons_succ]
              refine wpL_pure (.bool true) rfl (by kernel_rfl) ?_
              simp only [Act.put, List.setIfInBounds_toArray, List.set_cons_zero, List.set_cons_succ]
              go_wp2_with fail
              go_ret
              exact ⟨rfl, RI.out.1⟩
            · by_cases h3 : (n : Int) < fr_
              · have HX := Lib.hid (And.intro h1 (And.intro h2 h3))
                go_upto_region 9 with (fail)
                refine wp_region_lit ?_
                refine wpL_pure (.int .i64 sc) rfl (by kernel_rfl) ?_
                simp only [Act.put, List.setIfInBounds_toArray, List.set_cons_zero, List.set_cons_succ]
                refine wpL_pure (.bool false) rfl (run_lti Try.underlying3 rfl rfl rfl (by have := HR.out; have := HX.out; have := HG.out; have := F.out; rw [decide_eq_false_iff_not]; omega)) ?_
                simp only [Act.put, List.setIfInBounds_toArray, List.set_cons_zero, List.set_cons_succ]
                refine wpL_pure (.bool false) rfl (by kernel_rfl) ?_
                simp only [Act.put, List.setIfInBounds_toArray, List.set_cons_zero, List.set_cons_succ]
                refine wpL_pure (.int .i64 fr_) rfl (by kernel_rfl) ?_
                simp only [Act.put, List.setIfInBounds_toArray, List.set_cons_zero, List.set_cons_succ]
                refine wpL_pure (.bool false) rfl (run_lti Try.underlying3 rfl rfl rfl (by have := HR.out; have := HX.out; have := HG.out; have := F.out; rw [decide_eq_false_iff_not]; omega)) ?_
                simp only [Act.put, List.setIfInBounds_toArray, List.set_cons_zero, List.set_cons_succ]
                refine wpL_pure (.bool false) rfl (by kernel_rfl) ?_
                simp only [Act.put, List.setIfInBounds_toArray, List.set_cons_zero, List.set_cons_succ]
                refine wpL_pure (.bool false) rfl (by kernel_rfl) ?_
                simp only [Act.put, List.setIfInBounds_toArray, List.set_cons_zero, List.set_cons_succ]
                refine wpL_pure (.int .i64 fr_) rfl (by kernel_rfl) ?_
                simp only [Act.put, List.setIfInBounds_toArray, List.set_cons_zero, List.set_cons_succ]
                refine wpL_pure (.slice a n ca) rfl (by kernel_rfl) ?_
                simp only [Act.put, List.setIfInBounds_toArray, List.set_cons_zero, List.set_cons_succ]
                refine wpL_pure (.int .i64 (n : Int)) rfl (by kernel_rfl) ?_
                simp only [Act.put, List.setIfInBounds_toArray, List.set_cons_zero, List.set_cons_succ]
                refine wpL_pure (.bool true) rfl (run_gti Try.underlying3 rfl rfl rfl (by have := HR.out; have := HX.out; have := HG.out; have := F.out; rw [decide_eq_true_eq]; omega)) ?_
                simp only [Act.put, List.setIfInBounds_toArray, List.set_cons_zero, List.set_cons_succ]
                refine wpL_pure (.bool true) rfl (by kernel_rfl) ?_
                simp only [Act.put, List.setIfInBounds_toArray, List.set_cons_zero, List.set_cons_succ]
                refine wpL_pure (.bool true) rfl (by kernel_rfl) ?_
                simp only [Act.put, List.setIfInBounds_toArray, List.set_cons_zero, List.set_cons_succ]
                refine wpL_skip (by kernel_rfl) ?_
                simp only [Act.put, List.setIfInBounds_toArray, List.set_cons_zero, List.set_cons_succ]
                refine wpL_skip (by kernel_rfl) ?_
                simp only [Act.put, List.setIfInBounds_toArray, List.set_cons_zero, List.set_cons_succ]
                refine wpL_skip (by kernel_rfl) ?_
                simp only [Act.put, List.setIfInBounds_toArray, List.set_cons_zero, List.set_cons_succ]
                refine wpL_skip (by kernel_rfl) ?_
                simp only [Act.put, List.setIfInBounds_toArray, List.set_cons_zero, List.set_cons_succ]
                refine wpL_skip (by kernel_rfl) ?_
                simp only [Act.put, List.setIfInBounds_toArray, List.set_cons_zero, List.set_cons_succ]
                refine wpL_skip (by kernel_rfl) ?_
                simp only [Act.put, List.setIfInBounds_toArray, List.set_cons_zero, List.set_cons_succ]
                refine wpL_pure (.bool true) rfl (by kernel_rfl) ?_
                simp only [Act.put, List.setIfInBounds_toArray, List.set_cons_zero, List.set_cons_succ]
                go_upto_region 10 with (fail)
                refine wp_region_lit ?_
                refine wpL_pure (.int .i64 1) rfl (by kernel_rfl) ?_
                simp only [Act.put, List.setIfInBounds_toArray, List.set_cons_zero, List.set_cons_succ]
                refine wpL_pure (.bool true) rfl (by kernel_rfl) ?_
                simp only [Act.put, List.setIfInBounds_toArray, List.set_cons_zero, List.set_cons_succ]
                refine wpL_pure (.bool true) rfl (by kernel_rfl) ?_
                simp only [Act.put, List.setIfInBounds_toArray, List.set_cons_zero, List.set_cons_succ]
                refine wpL_pure (.pointer none) rfl (by kernel_rfl) ?_
                simp only [Act.put, List.setIfInBounds_toArray, List.set_cons_zero, List.set_cons_succ]
                refine wpL_pure (.bool true) rfl (by kernel_rfl) ?_
                simp only [Act.put, List.setIfInBounds_toArray, List.set_cons_zero, List.set_cons_succ]
                refine wpL_pure (.bool true) rfl (by kernel_rfl) ?_
                simp only [Act.put, List.setIfInBounds_toArray, List.set_cons_zero, List.set_cons_succ]
                refine wpL_pure (.bool true) rfl (by kernel_rfl) ?_
                simp only [Act.put, List.setIfInBounds_toArray, List.set_cons_zero, List.set_cons_succ]
                go_wp2_with fail
                go_ret
                exact ⟨rfl, RI.out.1⟩
              · have HX := Lib.hid (And.intro h1 (And.intro h2 h3))
                go_upto_region 9 with (fail)
                refine wp_region_lit ?_
                refine wpL_pure (.int .i64 sc) rfl (by kernel_rfl) ?_
                simp only [Act.put, List.setIfInBounds_toArray, List.set_cons_zero, List.set_cons_succ]
                refine wpL_pure (.bool false) rfl (run_lti Try.underlying3 rfl rfl rfl (by have := HR.out; have := HX.out; have := HG.out; have := F.out; rw [decide_eq_false_iff_not]; omega)) ?_
                simp only [Act.put, List.setIfInBounds_toArray, List.set_cons_zero, List.set_cons_succ]
                refine wpL_pure (.bool false) rfl (by kernel_rfl) ?_
                simp only [Act.put, List.setIfInBounds_toArray, List.set_cons_zero, List.set_cons_succ]
                refine wpL_pure (.int .i64 fr_) rfl (by kernel_rfl) ?_
                simp only [Act.put, List.setIfInBounds_toArray, List.set_cons_zero, List.set_cons_succ]
                refine wpL_pure (.bool false) rfl (run_lti Try.underlying3 rfl rfl rfl (by have := HR.out; have := HX.out; have := HG.out; have := F.out; rw [decide_eq_false_iff_not]; omega)) ?_
                simp only [Act.put, List.setIfInBounds_toArray, List.set_cons_zero, List.set_cons_succ]
                refine wpL_pure (.bool false) rfl (by kernel_rfl) ?_
                simp only [Act.put, List.setIfInBounds_toArray, List.set_cons_zero, List.set_cons_succ]
                refine wpL_pure (.bool false) rfl (by kernel_rfl) ?_
                simp only [Act.put, List.setIfInBounds_toArray, List.set_cons_zero, List.set_cons_succ]
                refine wpL_pure (.int .i64 fr_) rfl (by kernel_rfl) ?_
                simp only [Act.put, List.setIfInBounds_toArray, List.set_cons_zero, List.set_cons_succ]
                refine wpL_pure (.slice a n ca) rfl (by kernel_rfl) ?_
                simp only [Act.put, List.setIfInBounds_toArray, List.set_cons_zero, List.set_cons_succ]
                refine wpL_pure (.int .i64 (n : Int)) rfl (by kernel_rfl) ?_
                simp only [Act.put, List.setIfInBounds_toArray, List.set_cons_zero, List.set_cons_succ]
                refine wpL_pure (.bool false) rfl (run_gti Try.underlying3 rfl rfl rfl (by have := HR.out; have := HX.out; have := HG.out; have := F.out; rw [decide_eq_false_iff_not]; omega)) ?_
                simp only [Act.put, List.setIfInBounds_toArray, List.set_cons_zero, List.set_cons_succ]
                refine wpL_pure (.bool false) rfl (by kernel_rfl) ?_
                simp only [Act.put, List.setIfInBounds_toArray, List.set_cons_zero, List.set_cons_succ]
                refine wpL_pure (.bool false) rfl (by kernel_rfl) ?_
                simp only [Act.put, List.setIfInBounds_toArray, List.set_cons_zero, List.set_cons_succ]
                refine wpL_pure (.int .i64 sc) rfl (by kernel_rfl) ?_
                simp only [Act.put, List.setIfInBounds_toArray, List.set_cons_zero, List.set_cons_succ]
                refine wpL_pure (.slice a n ca) rfl (by kernel_rfl) ?_
                simp only [Act.put, List.setIfInBounds_toArray, List.set_cons_zero, List.set_cons_succ]
                refine wpL_pure (.int .i64 (n : Int)) rfl (by kernel_rfl) ?_
                simp only [Act.put, List.setIfInBounds_toArray, List.set_cons_zero, List.set_cons_succ]
                refine wpL_pure (.int .i64 fr_) rfl (by kernel_rfl) ?_
                simp only [Act.put, List.setIfInBounds_toArray, List.set_cons_zero, List.set_cons_succ]
                refine wpL_pure (.int .i64 ((n : Int) - fr_)) rfl (run_subi Try.underlying3 rfl rfl rfl _ (by have := HR.out; have := HX.out; have := HG.out; have := F.out; rw [wrap_in _ (by omega) (by omega)])) ?_
                simp only [Act.put, List.setIfInBounds_toArray, List.set_cons_zero, List.set_cons_succ]
                refine wpL_pure (.bool true) rfl (run_gti Try.underlying3 rfl rfl rfl (by have := HR.out; have := HX.out; have := HG.out; have := F.out; rw [decide_eq_true_eq]; omega)) ?_
                simp only [Act.put, List.setIfInBounds_toArray, List.set_cons_zero, List.set_cons_succ]
                refine wpL_pure (.bool true) rfl (by kernel_rfl) ?_
                simp only [Act.put, List.setIfInBounds_toArray, List.set_cons_zero, List.set_cons_succ]
                go_upto_region 10 with (fail)
                refine wp_region_lit ?_
                refine wpL_pure (.int .i64 1) rfl (by kernel_rfl) ?_
                simp only [Act.put, List.setIfInBounds_toArray, List.set_cons_zero, List.set_cons_succ]
                refine wpL_pure (.bool true) rfl (by kernel_rfl) ?_
                simp only [Act.put, List.setIfInBounds_toArray, List.set_cons_zero, List.set_cons_succ]
                refine wpL_pure (.bool true) rfl (by kernel_rfl) ?_
                simp only [Act.put, List.setIfInBounds_toArray, List.set_cons_zero, List.set_cons_succ]
                refine wpL_pure (.pointer none) rfl (by kernel_rfl) ?_
                simp only [Act.put, List.setIfInBounds_toArray, List.set_cons_zero, List.set_cons_succ]
                refine wpL_pure (.bool true) rfl (by kernel_rfl) ?_
                simp only [Act.put, List.setIfInBounds_toArray, List.set_cons_zero, List.set_cons_succ]
                refine wpL_pure (.bool true) rfl (by kernel_rfl) ?_
                simp only [Act.put, List.setIfInBounds_toArray, List.set_cons_zero, List.set_cons_succ]
                refine wpL_pure (.bool true) rfl (by kernel_rfl) ?_
                simp only [Act.put, List.setIfInBounds_toArray, List.set_cons_zero, List.set_cons_succ]
                go_wp2_with fail
                go_ret
                exact ⟨rfl, RI.out.1⟩
end Go.Proofs.Yteabblmhcjpboaa.D
namespace Go.Proofs.Yteabblmhcjpboaa
open Go Go.RowKit
theorem walkCellsOpens (a : Option Addr) (n ca : Nat) (x y : Int) (hx : (Lit.int .i64 x).wf = true) (hy : (Lit.int .i64 y).wf = true) (w : World) (h : ∃ L : List (List Int), L.length = n ∧ D.Parts w a n L) :
    Calls Try.prog 4 #[.slice a n ca, .int .i64 x, .int .i64 y] w fun e w' => e = .returned (.bool true) ∧ Below w.heap.size w w' := by
  obtain ⟨L, _, h⟩ := h
  exact D.opens_any w a n ca x y L h ⟨bounds_i64 hx, bounds_i64 hy⟩
end Go.Proofs.Yteabblmhcjpboaa
