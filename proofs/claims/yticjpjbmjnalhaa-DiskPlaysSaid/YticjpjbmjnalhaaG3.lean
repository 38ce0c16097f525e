/- same: have both the same sectors? -/
import Derived.Test.YticjpjbmjnalhaaG2
namespace Go.Proofs.Yticjpjbmjnalhaa
open Go Go.RowKit
set_option maxRecDepth 100000
theorem run_str_nes (a : Act) (o : Oper) (w : World) (x y : Operand) (s : ByteArray) (ho : o.op = .binOp .neq 9 x y 9) (hx : a.eval x = .string s) (hy : a.eval y = .string s) : (execOp a.eval o).run Try.prog w = .ok (.value (.bool false)) w := by
  unfold execOp
  simp only [ho, hx, hy]
  go_simp
attribute [local irreducible] wpList
set_option maxHeartbeats 4000000 in
theorem same_any (w : World) (base b gs gm r n : Nat) (h : LK w base b gs gm r n) :
    Calls Try.prog 16 #[.pointer (some ⟨b, 0, none⟩), .pointer (some ⟨r, 0, none⟩)] w fun e w' => e = .returned (.bool true) ∧ LK w' base b gs gm r n ∧ Below w.heap.size w w' := by
  obtain ⟨L, c, S, fu, fz, go, N, W, I, fr, d, ⟨D, hD, rd⟩, l, q, bs⟩ := h
  obtain ⟨r', gN, gW, gI, cN, cW, cI, aN, aW, aI, pN, kN, pW, kW⟩ := D
  obtain rfl : r = r' := hD.symm
  clear hD
  have F0 : Hid (DS w b gs gm n L c S fu fz go ∧ RSD w base n ⟨r, gN, gW, gI, cN, cW, cI, aN, aW, aI, pN, kN, pW, kW⟩ N W I fr go) := Lib.hid ⟨d, rd⟩
  have HL := Lib.hid l
  have HQ := Lib.hid q
  have HBS := Lib.hid bs
  have HN := Lib.hid rd.few
  obtain ⟨lc, hlc⟩ : ∃ q, L.length = q := ⟨_, rfl⟩
  have EL := Lib.hid hlc
  have EC : Hid (cntB I n = lc) := Lib.hid ((lnk_cnt d.2.2.2.2.2.2.2.1 l).trans hlc)
  clear hlc l q bs d rd
  go_enter Try.func16, Try.ntmps16
  go_upto_region 0 with (fail)
  refine wp_region_lit ?_
  refine wpL_pure (.bool false) rfl (by kernel_rfl) ?_
  simp only [Act.put, List.setIfInBounds_toArray, List.set_cons_zero, List.set_cons_succ]
  go_upto_region 1 with (fail)
  refine region_held_all (fun X => DS X b gs gm n L c S fu fz go ∧ RSD X base n ⟨r, gN, gW, gI, cN, cW, cI, aN, aW, aI, pN, kN, pW, kW⟩ N W I fr go ∧ Below w.heap.size w X) (by kernel_rfl) (by kernel_rfl) (by exact ⟨F0.out.1.drewD, F0.out.2.below (Below.drew (Below.refl _ _)), Below.drew (Below.refl _ _)⟩) ?_
  refine wpHeld_cons (.pointer (some ⟨b, 0, none⟩)) rfl (fun w h => heldRun_value (by kernel_rfl) h) ?_
  simp only [Act.put, List.setIfInBounds_toArray, List.set_cons_zero, List.set_cons_succ]
  refine wpHeld_call (.int .i64 (n : Int)) 22 #[.pointer (some ⟨b, 0, none⟩)] rfl (fun w => by kernel_rfl) (fun X h => (secD h.1).mono fun e V he => ⟨he.1, he.2 ▸ h⟩) ?_
  simp only [Act.put, List.setIfInBounds_toArray, List.set_cons_zero, List.set_cons_succ]
  refine wpHeld_cons (.pointer (some ⟨r, 0, none⟩)) rfl (fun w h => heldRun_value (by kernel_rfl) h) ?_
  simp only [Act.put, List.setIfInBounds_toArray, List.set_cons_zero, List.set_cons_succ]
  refine wpHeld_cons (.pointer (some ⟨r, 0, none⟩)) rfl (fun w h => heldRun_value (by kernel_rfl) h) ?_
  simp only [Act.put, List.setIfInBounds_toArray, List.set_cons_zero, List.set_cons_succ]
  refine wpHeld_cons (.pointer (some ⟨r, 0, none⟩)) rfl (fun w h => heldRun_value (by kernel_rfl) h) ?_
  simp only [Act.put, List.setIfInBounds_toArray, List.set_cons_zero, List.set_cons_succ]
  refine wpHeld_cons (.slice aN n cN) rfl (fun w h => heldRun_value (run_load_one _ _ _ 56 _ _ rfl (r) (0) rfl (by rw [h.2.1.cells.cell]; rfl) (by kernel_rfl)) h) ?_
  simp only [Act.put, List.setIfInBounds_toArray, List.set_cons_zero, List.set_cons_succ]
  refine wpHeld_cons (.int .i64 (n : Int)) rfl (fun w h => heldRun_value (by kernel_rfl) h) ?_
  simp only [Act.put, List.setIfInBounds_toArray, List.set_cons_zero, List.set_cons_succ]
  refine wpHeld_cons (.bool false) rfl (fun w h => heldRun_value (run_nei Try.underlying3 rfl rfl rfl (by simp)) h) ?_
  simp only [Act.put, List.setIfInBounds_toArray, List.set_cons_zero, List.set_cons_succ]
  refine wpHeld_cons (.bool false) rfl (fun w h => heldRun_value (by kernel_rfl) h) ?_
  simp only [Act.put, List.setIfInBounds_toArray, List.set_cons_zero, List.set_cons_succ]
  refine wpHeld_cons (.pointer (some ⟨b, 0, none⟩)) rfl (fun w h => heldRun_value (by kernel_rfl) h) ?_
  simp only [Act.put, List.setIfInBounds_toArray, List.set_cons_zero, List.set_cons_succ]
  refine wpHeld_call (.int .i64 (lc : Int)) 19 #[.pointer (some ⟨b, 0, none⟩)] rfl (fun w => by kernel_rfl) (fun X h => (looseD h.1).mono fun e V he => ⟨by rw [he.1, EL.out], he.2 ▸ h⟩) ?_
  simp only [Act.put, List.setIfInBounds_toArray, List.set_cons_zero, List.set_cons_succ]
  refine wpHeld_cons (.pointer (some ⟨r, 0, none⟩)) rfl (fun w h => heldRun_value (by kernel_rfl) h) ?_
  simp only [Act.put, List.setIfInBounds_toArray, List.set_cons_zero, List.set_cons_succ]
  refine wpHeld_call (.int .i64 (lc : Int)) 29 #[.pointer (some ⟨r, 0, none⟩)] rfl (fun w => by kernel_rfl) (fun X h => (looseR X r gI n cI aI _ _ I fr go h.2.1.cells (fun hn => (h.2.1.addr hn).2.2) (fun k hk => (h.2.1.bI (by omega)).cell k hk) h.2.1.few).mono fun e V he => ⟨by rw [he.1, EC.out], he.2.symm ▸ h⟩) ?_
  simp only [Act.put, List.setIfInBounds_toArray, List.set_cons_zero, List.set_cons_succ]
  refine wpHeld_cons (.bool false) rfl (fun w h => heldRun_value (run_nei Try.underlying3 rfl rfl rfl (by simp)) h) ?_
  simp only [Act.put, List.setIfInBounds_toArray, List.set_cons_zero, List.set_cons_succ]
  refine wpHeld_cons (.bool false) rfl (fun w h => heldRun_value (by kernel_rfl) h) ?_
  simp only [Act.put, List.setIfInBounds_toArray, List.set_cons_zero, List.set_cons_succ]
  refine wpHeld_cons (.bool false) rfl (fun w h => heldRun_value (by kernel_rfl) h) ?_
  simp only [Act.put, List.setIfInBounds_toArray, List.set_cons_zero, List.set_cons_succ]
  refine wpHeld_cons (.pointer (some ⟨b, 0, none⟩)) rfl (fun w h => heldRun_value (by kernel_rfl) h) ?_
  simp only [Act.put, List.setIfInBounds_toArray, List.set_cons_zero, List.set_cons_succ]
  refine wpHeld_call (.bool go) 20 #[.pointer (some ⟨b, 0, none⟩)] rfl (fun w => by kernel_rfl) (fun X h => (goneD h.1).mono fun e V he => ⟨he.1, he.2 ▸ h⟩) ?_
  simp only [Act.put, List.setIfInBounds_toArray, List.set_cons_zero, List.set_cons_succ]
  refine wpHeld_cons (.pointer (some ⟨r, 0, none⟩)) rfl (fun w h => heldRun_value (by kernel_rfl) h) ?_
  simp only [Act.put, List.setIfInBounds_toArray, List.set_cons_zero, List.set_cons_succ]
  refine wpHeld_cons (.pointer (some ⟨r, 0, none⟩)) rfl (fun w h => heldRun_value (by kernel_rfl) h) ?_
  simp only [Act.put, List.setIfInBounds_toArray, List.set_cons_zero, List.set_cons_succ]
  refine wpHeld_cons (.pointer (some ⟨r, 4, none⟩)) rfl (fun w h => heldRun_value (by kernel_rfl) h) ?_
  simp only [Act.put, List.setIfInBounds_toArray, List.set_cons_zero, List.set_cons_succ]
  refine wpHeld_cons (.bool go) rfl (fun w h => heldRun_value (run_load_one _ _ _ 4 _ _ rfl (r) (4) rfl (by rw [h.2.1.cells.cell]; rfl) (by kernel_rfl)) h) ?_
  simp only [Act.put, List.setIfInBounds_toArray, List.set_cons_zero, List.set_cons_succ]
  refine wpHeld_cons (.bool false) rfl (fun w h => heldRun_value (by cases go <;> kernel_rfl) h) ?_
  simp only [Act.put, List.setIfInBounds_toArray, List.set_cons_zero, List.set_cons_succ]
  refine wpHeld_cons (.bool false) rfl (fun w h => heldRun_value (by kernel_rfl) h) ?_
  simp only [Act.put, List.setIfInBounds_toArray, List.set_cons_zero, List.set_cons_succ]
  refine wpHeld_nil ?_
  intro X1 h
  have F1 : Hid (DS X1 b gs gm n L c S fu fz go ∧ RSD X1 base n ⟨r, gN, gW, gI, cN, cW, cI, aN, aW, aI, pN, kN, pW, kW⟩ N W I fr go ∧ Below w.heap.size w X1) := Lib.hid h
  clear h F0
  go_upto_region 3 with (fail)
  refine wp_region_lit ?_
  refine wpL_pure (.int .i64 (-1)) rfl (by kernel_rfl) ?_
  simp only [Act.put, List.setIfInBounds_toArray, List.set_cons_zero, List.set_cons_succ]
  go_wp2_with fail
  go_loopw [5] (fun s5 wr => ∃ k : Nat, s5 = .int .i64 ((k : Int) - 1) ∧ Hid (k ≤ n + 2 ∧ DS wr b gs gm n L c S fu fz go ∧ RSD wr base n ⟨r, gN, gW, gI, cN, cW, cI, aN, aW, aI, pN, kN, pW, kW⟩ N W I fr go ∧ Below w.heap.size w wr)) (fun s5 _ => n + 2 - (intOf s5 + 1).toNat)
  case atStart => exact ⟨0, rfl, Lib.hid ⟨Nat.zero_le _, F1.out⟩⟩
  case round =>
    clear F1
    obtain ⟨k, rfl, RI⟩ := hrel
    by_cases hlt : k ≤ n + 1
    · have HK := Lib.hid hlt
      clear hlt
      go_upto_region 4 with (fail)
      refine wp_region_lit ?_
      refine wpL_pure (.int .i64 ((k : Int) - 1)) rfl (by kernel_rfl) ?_
      simp only [Act.put, List.setIfInBounds_toArray, List.set_cons_zero, List.set_cons_succ]
      refine wpL_pure (.pointer (some ⟨r, 0, none⟩)) rfl (by kernel_rfl) ?_
      simp only [Act.put, List.setIfInBounds_toArray, List.set_cons_zero, List.set_cons_succ]
      refine wpL_pure (.pointer (some ⟨r, 0, none⟩)) rfl (by kernel_rfl) ?_
      simp only [Act.put, List.setIfInBounds_toArray, List.set_cons_zero, List.set_cons_succ]
      refine wpL_pure (.pointer (some ⟨r, 0, none⟩)) rfl (by kernel_rfl) ?_
      simp only [Act.put, List.setIfInBounds_toArray, List.set_cons_zero, List.set_cons_succ]
      refine wpL_pure (.slice aN n cN) rfl (run_load_one _ _ _ 56 _ _ rfl (r) (0) rfl (by rw [RI.out.2.2.1.cells.cell]; rfl) (by kernel_rfl)) ?_
      simp only [Act.put, List.setIfInBounds_toArray, List.set_cons_zero, List.set_cons_succ]
      refine wpL_pure (.int .i64 (n : Int)) rfl (by kernel_rfl) ?_
      simp only [Act.put, List.setIfInBounds_toArray, List.set_cons_zero, List.set_cons_succ]
      refine wpL_pure (.bool true) rfl (run_lei Try.underlying3 rfl rfl rfl (by have := HK.out; rw [decide_eq_true_eq]; omega)) ?_
      simp only [Act.put, List.setIfInBounds_toArray, List.set_cons_zero, List.set_cons_succ]
      by_cases hin : 1 ≤ k ∧ k ≤ n
      · have HC := Lib.hid hin
        clear hin
        obtain ⟨j, hj⟩ : ∃ j : Nat, k = j + 1 := ⟨k - 1, by have := HC.out; omega⟩
        have HJ : Hid (k = j + 1 ∧ j < n) := Lib.hid ⟨hj, by have := HC.out; omega⟩
        clear hj
        cases go
        · go_upto_region 6 with (fail)
          refine wp_region_lit ?_
          refine wpL_pure (.pointer (some ⟨b, 0, none⟩)) rfl (by kernel_rfl) ?_
          simp only [Act.put, List.setIfInBounds_toArray, List.set_cons_zero, List.set_cons_succ]
          refine wpL_pure (.int .i64 ((k : Int) - 1)) rfl (by kernel_rfl) ?_
          simp only [Act.put, List.setIfInBounds_toArray, List.set_cons_zero, List.set_cons_succ]
          refine wpL_call 12 #[.pointer (some ⟨b, 0, none⟩), .int .i64 ((k : Int) - 1)] rfl (by kernel_rfl) ((readD RI.out.2.1 ((k : Int) - 1)).mono ?_)
          rintro e W1 hrd
          obtain ⟨s, v, hs, he, ho, hb⟩ : ∃ (s : List Int) (v : Value), S[j]? = some s ∧ e = .returned (.tuple #[v, .int .i64 0]) ∧ Own W1 wr.heap.size v s ∧ Below wr.heap.size wr W1 := by
            rcases hrd with ⟨h1, _⟩ | ⟨_, h2, _⟩ | ⟨_, _, k', s, v, hk, hs, he, ho, hb⟩
            · exact absurd (by have := HC.out; omega) h1
            · cases h2
            · obtain rfl : k' = j := by have := HJ.out; omega
              exact ⟨s, v, hs, he, ho, hb⟩
          subst he
          obtain rfl : s = N j := by have q := HL.out.1 j HJ.out.2; rw [hs] at q; exact Option.some.inj q
          have OK := RI.out.2.2.1.oN j HJ.out.2
          obtain ⟨g2, c2, hv, bp, _, _⟩ := own_bp ho OK
          subst hv
          have F2 : Hid (DS W1 b gs gm n L c S fu fz false ∧ RSD W1 base n ⟨r, gN, gW, gI, cN, cW, cI, aN, aW, aI, pN, kN, pW, kW⟩ N W I fr false ∧ Below w.heap.size w W1) := Lib.hid ⟨RI.out.2.1.below hb, RI.out.2.2.1.below hb, RI.out.2.2.2.trans (hb.mono RI.out.2.2.2.size)⟩
          have R2 : Hid (Row W1 (some ⟨g2, 0, none⟩) 64 (N j)) := Lib.hid (bp.row OK)
          have OK := Lib.hid OK
          clear ho bp hb hs hrd
          refine ⟨_, rfl, ?_⟩
          simp only [Act.put, List.setIfInBounds_toArray, List.set_cons_zero, List.set_cons_succ]
          refine wpL_pure (.tuple #[.slice (some ⟨g2, 0, none⟩) 64 c2, .int .i64 0]) rfl (by kernel_rfl) ?_
          simp only [Act.put, List.setIfInBounds_toArray, List.set_cons_zero, List.set_cons_succ]
          refine wpL_pure (.slice (some ⟨g2, 0, none⟩) 64 c2) rfl (by kernel_rfl) ?_
          simp only [Act.put, List.setIfInBounds_toArray, List.set_cons_zero, List.set_cons_succ]
          refine wpL_pure (.int .i64 0) rfl (by kernel_rfl) ?_
          simp only [Act.put, List.setIfInBounds_toArray, List.set_cons_zero, List.set_cons_succ]
          refine wpL_pure (.slice (some ⟨g2, 0, none⟩) 64 c2) rfl (by kernel_rfl) ?_
          simp only [Act.put, List.setIfInBounds_toArray, List.set_cons_zero, List.set_cons_succ]
          refine wpL_pure (.int .i64 0) rfl (by kernel_rfl) ?_
          simp only [Act.put, List.setIfInBounds_toArray, List.set_cons_zero, List.set_cons_succ]
          unfold wpList
          go_upto_region 7 with (fail)
          refine wp_region_lit ?_
          refine wpL_pure (.int .i64 ((k : Int) - 1)) rfl (by kernel_rfl) ?_
          simp only [Act.put, List.setIfInBounds_toArray, List.set_cons_zero, List.set_cons_succ]
          refine wpL_pure (.bool false) rfl (run_lti Try.underlying3 rfl rfl rfl (by have := HC.out; rw [decide_eq_false_iff_not]; omega)) ?_
          simp only [Act.put, List.setIfInBounds_toArray, List.set_cons_zero, List.set_cons_succ]
          refine wpL_pure (.bool false) rfl (by kernel_rfl) ?_
          simp only [Act.put, List.setIfInBounds_toArray, List.set_cons_zero, List.set_cons_succ]
          refine wpL_pure (.int .i64 ((k : Int) - 1)) rfl (by kernel_rfl) ?_
          simp only [Act.put, List.setIfInBounds_toArray, List.set_cons_zero, List.set_cons_succ]
          refine wpL_pure (.pointer (some ⟨r, 0, none⟩)) rfl (by kernel_rfl) ?_
          simp only [Act.put, List.setIfInBounds_toArray, List.set_cons_zero, List.set_cons_succ]
          refine wpL_pure (.pointer (some ⟨r, 0, none⟩)) rfl (by kernel_rfl) ?_
          simp only [Act.put, List.setIfInBounds_toArray, List.set_cons_zero, List.set_cons_succ]
          refine wpL_pure (.pointer (some ⟨r, 0, none⟩)) rfl (by kernel_rfl) ?_
          simp only [Act.put, List.setIfInBounds_toArray, List.set_cons_zero, List.set_cons_succ]
          refine wpL_pure (.slice aN n cN) rfl (run_load_one _ _ _ 56 _ _ rfl (r) (0) rfl (by rw [F2.out.2.1.cells.cell]; rfl) (by kernel_rfl)) ?_
          simp only [Act.put, List.setIfInBounds_toArray, List.set_cons_zero, List.set_cons_succ]
          refine wpL_pure (.int .i64 (n : Int)) rfl (by kernel_rfl) ?_
          simp only [Act.put, List.setIfInBounds_toArray, List.set_cons_zero, List.set_cons_succ]
          refine wpL_pure (.bool false) rfl (run_eqi Try.underlying3 rfl rfl rfl (by have := HC.out; rw [decide_eq_false_iff_not]; omega)) ?_
          simp only [Act.put, List.setIfInBounds_toArray, List.set_cons_zero, List.set_cons_succ]
          refine wpL_pure (.bool false) rfl (by kernel_rfl) ?_
          simp only [Act.put, List.setIfInBounds_toArray, List.set_cons_zero, List.set_cons_succ]
          go_upto_region 10 with (fail)
          refine region_held_all (fun X => DS X b gs gm n L c S fu fz false ∧ RSD X base n ⟨r, gN, gW, gI, cN, cW, cI, aN, aW, aI, pN, kN, pW, kW⟩ N W I fr false ∧ Below w.heap.size w X ∧ Row X (some ⟨g2, 0, none⟩) 64 (N j)) (by kernel_rfl) (by kernel_rfl) (by exact ⟨F2.out.1.drewD, F2.out.2.1.below (Below.drew (Below.refl _ _)), F2.out.2.2.trans (Below.drew (Below.refl _ _)), R2.out.drewR⟩) ?_
          refine wpHeld_cons (.pointer (some ⟨r, 0, none⟩)) rfl (fun w h => heldRun_value (by kernel_rfl) h) ?_
          simp only [Act.put, List.setIfInBounds_toArray, List.set_cons_zero, List.set_cons_succ]
          refine wpHeld_cons (.pointer (some ⟨r, 0, none⟩)) rfl (fun w h => heldRun_value (by kernel_rfl) h) ?_
          simp only [Act.put, List.setIfInBounds_toArray, List.set_cons_zero, List.set_cons_succ]
          refine wpHeld_cons (.pointer (some ⟨r, 4, none⟩)) rfl (fun w h => heldRun_value (by kernel_rfl) h) ?_
          simp only [Act.put, List.setIfInBounds_toArray, List.set_cons_zero, List.set_cons_succ]
          refine wpHeld_cons (.bool false) rfl (fun w h => heldRun_value (run_load_one _ _ _ 4 _ _ rfl (r) (4) rfl (by rw [h.2.1.cells.cell]; rfl) (by kernel_rfl)) h) ?_
          simp only [Act.put, List.setIfInBounds_toArray, List.set_cons_zero, List.set_cons_succ]
          refine wpHeld_cons (.bool false) rfl (fun w h => heldRun_value (by kernel_rfl) h) ?_
          simp only [Act.put, List.setIfInBounds_toArray, List.set_cons_zero, List.set_cons_succ]
          refine wpHeld_skip rfl ?_
          simp only [Act.put, List.setIfInBounds_toArray, List.set_cons_zero, List.set_cons_succ]
          refine wpHeld_skip rfl ?_
          simp only [Act.put, List.setIfInBounds_toArray, List.set_cons_zero, List.set_cons_succ]
          refine wpHeld_skip rfl ?_
          simp only [Act.put, List.setIfInBounds_toArray, List.set_cons_zero, List.set_cons_succ]
          refine wpHeld_skip rfl ?_
          simp only [Act.put, List.setIfInBounds_toArray, List.set_cons_zero, List.set_cons_succ]
          refine wpHeld_skip rfl ?_
          simp only [Act.put, List.setIfInBounds_toArray, List.set_cons_zero, List.set_cons_succ]
          refine wpHeld_skip rfl ?_
          simp only [Act.put, List.setIfInBounds_toArray, List.set_cons_zero, List.set_cons_succ]
          refine wpHeld_skip rfl ?_
          simp only [Act.put, List.setIfInBounds_toArray, List.set_cons_zero, List.set_cons_succ]
          refine wpHeld_cons (.bool false) rfl (fun w h => heldRun_value (by kernel_rfl) h) ?_
          simp only [Act.put, List.setIfInBounds_toArray, List.set_cons_zero, List.set_cons_succ]
          refine wpHeld_cons (.bool false) rfl (fun w h => heldRun_value (by kernel_rfl) h) ?_
          simp only [Act.put, List.setIfInBounds_toArray, List.set_cons_zero, List.set_cons_succ]
          refine wpHeld_cons (.pointer (some ⟨r, 0, none⟩)) rfl (fun w h => heldRun_value (by kernel_rfl) h) ?_
          simp only [Act.put, List.setIfInBounds_toArray, List.set_cons_zero, List.set_cons_succ]
          refine wpHeld_cons (.pointer (some ⟨r, 0, none⟩)) rfl (fun w h => heldRun_value (by kernel_rfl) h) ?_
          simp only [Act.put, List.setIfInBounds_toArray, List.set_cons_zero, List.set_cons_succ]
          refine wpHeld_cons (.pointer (some ⟨r, 4, none⟩)) rfl (fun w h => heldRun_value (by kernel_rfl) h) ?_
          simp only [Act.put, List.setIfInBounds_toArray, List.set_cons_zero, List.set_cons_succ]
          refine wpHeld_cons (.bool false) rfl (fun w h => heldRun_value (run_load_one _ _ _ 4 _ _ rfl (r) (4) rfl (by rw [h.2.1.cells.cell]; rfl) (by kernel_rfl)) h) ?_
          simp only [Act.put, List.setIfInBounds_toArray, List.set_cons_zero, List.set_cons_succ]
          refine wpHeld_cons (.bool true) rfl (fun w h => heldRun_value (by kernel_rfl) h) ?_
          simp only [Act.put, List.setIfInBounds_toArray, List.set_cons_zero, List.set_cons_succ]
          refine wpHeld_cons (.bool true) rfl (fun w h => heldRun_value (by kernel_rfl) h) ?_
          simp only [Act.put, List.setIfInBounds_toArray, List.set_cons_zero, List.set_cons_succ]
          refine wpHeld_cons (.int .i64 0) rfl (fun w h => heldRun_value (by kernel_rfl) h) ?_
          simp only [Act.put, List.setIfInBounds_toArray, List.set_cons_zero, List.set_cons_succ]
          refine wpHeld_cons (.bool false) rfl (fun w h => heldRun_value (by kernel_rfl) h) ?_
          simp only [Act.put, List.setIfInBounds_toArray, List.set_cons_zero, List.set_cons_succ]
          refine wpHeld_cons (.bool false) rfl (fun w h => heldRun_value (by kernel_rfl) h) ?_
          simp only [Act.put, List.setIfInBounds_toArray, List.set_cons_zero, List.set_cons_succ]
          refine wpHeld_cons (.slice (some ⟨g2, 0, none⟩) 64 c2) rfl (fun w h => heldRun_value (by kernel_rfl) h) ?_
          simp only [Act.put, List.setIfInBounds_toArray, List.set_cons_zero, List.set_cons_succ]
          refine wpHeld_cons (.string (strOfNums (N j))) rfl (fun w h => heldRun_value (run_conv_str _ _ _ _ _ _ _ (N j) rfl rfl h.2.2.2) h) ?_
          simp only [Act.put, List.setIfInBounds_toArray, List.set_cons_zero, List.set_cons_succ]
          refine wpHeld_cons (.pointer (some ⟨r, 0, none⟩)) rfl (fun w h => heldRun_value (by kernel_rfl) h) ?_
          simp only [Act.put, List.setIfInBounds_toArray, List.set_cons_zero, List.set_cons_succ]
          refine wpHeld_cons (.pointer (some ⟨r, 0, none⟩)) rfl (fun w h => heldRun_value (by kernel_rfl) h) ?_
          simp only [Act.put, List.setIfInBounds_toArray, List.set_cons_zero, List.set_cons_succ]
          refine wpHeld_cons (.pointer (some ⟨r, 0, none⟩)) rfl (fun w h => heldRun_value (by kernel_rfl) h) ?_
          simp only [Act.put, List.setIfInBounds_toArray, List.set_cons_zero, List.set_cons_succ]
          refine wpHeld_cons (.slice aN n cN) rfl (fun w h => heldRun_value (run_load_one _ _ _ 56 _ _ rfl (r) (0) rfl (by rw [h.2.1.cells.cell]; rfl) (by kernel_rfl)) h) ?_
          simp only [Act.put, List.setIfInBounds_toArray, List.set_cons_zero, List.set_cons_succ]
          refine wpHeld_cons (.int .i64 ((k : Int) - 1)) rfl (fun w h => heldRun_value (by kernel_rfl) h) ?_
          simp only [Act.put, List.setIfInBounds_toArray, List.set_cons_zero, List.set_cons_succ]
          refine wpHeld_cons (.pointer (some ⟨gN, j, none⟩)) rfl (fun w h => heldRun_value (run_idx56' _ _ _ _ _ aN gN n cN j rfl rfl (h.2.1.addr (by have := HJ.out; omega)).1 (by have := HJ.out.1; rw [show ((j : Nat) : Int) = (k : Int) - 1 by omega]; rfl) HJ.out.2 (by have := HN.out; unfold maxLen; omega)) h) ?_
          simp only [Act.put, List.setIfInBounds_toArray, List.set_cons_zero, List.set_cons_succ]
          refine wpHeld_cons (.slice (some ⟨pN j, 0, none⟩) 64 (kN j)) rfl (fun w h => heldRun_value (run_load_one _ _ _ 22 _ _ rfl (gN) (j) rfl ((h.2.1.bN (by have := HJ.out; omega)).cell j HJ.out.2) (by kernel_rfl)) h) ?_
          simp only [Act.put, List.setIfInBounds_toArray, List.set_cons_zero, List.set_cons_succ]
          refine wpHeld_cons (.string (strOfNums (N j))) rfl (fun w h => heldRun_value (run_conv_str _ _ _ _ _ _ _ (N j) rfl rfl ((h.2.1.rN j HJ.out.2).row OK.out)) h) ?_
          simp only [Act.put, List.setIfInBounds_toArray, List.set_cons_zero, List.set_cons_succ]
          refine wpHeld_cons (.bool false) rfl (fun w h => heldRun_value (run_str_nes _ _ _ _ _ _ rfl rfl rfl) h) ?_
          simp only [Act.put, List.setIfInBounds_toArray, List.set_cons_zero, List.set_cons_succ]
          refine wpHeld_cons (.bool false) rfl (fun w h => heldRun_value (by kernel_rfl) h) ?_
          simp only [Act.put, List.setIfInBounds_toArray, List.set_cons_zero, List.set_cons_succ]
          refine wpHeld_cons (.bool false) rfl (fun w h => heldRun_value (by kernel_rfl) h) ?_
          simp only [Act.put, List.setIfInBounds_toArray, List.set_cons_zero, List.set_cons_succ]
          refine wpHeld_cons (.bool false) rfl (fun w h => heldRun_value (by kernel_rfl) h) ?_
          simp only [Act.put, List.setIfInBounds_toArray, List.set_cons_zero, List.set_cons_succ]
          refine wpHeld_nil ?_
          intro X3 h
          have F3 := Lib.hid h
          clear h F2 R2
          have F2 : Hid (DS X3 b gs gm n L c S fu fz false ∧ RSD X3 base n ⟨r, gN, gW, gI, cN, cW, cI, aN, aW, aI, pN, kN, pW, kW⟩ N W I fr false ∧ Below w.heap.size w X3) := Lib.hid ⟨F3.out.1, F3.out.2.1, F3.out.2.2.1⟩
          clear F3
          go_upto_region 5 with (fail)
          refine wp_region_lit ?_
          refine wpL_pure (.int .i64 ((k : Int) - 1)) rfl (by kernel_rfl) ?_
          simp only [Act.put, List.setIfInBounds_toArray, List.set_cons_zero, List.set_cons_succ]
          refine wpL_pure (.int .i64 (((k + 1 : Nat) : Int) - 1)) rfl (run_addi Try.underlying3 rfl rfl rfl _ (by have := HK.out; have := HN.out; rw [wrap_in _ (by omega) (by omega)]; omega)) ?_
          simp only [Act.put, List.setIfInBounds_toArray, List.set_cons_zero, List.set_cons_succ]
          refine wpL_pure (.int .i64 (((k + 1 : Nat) : Int) - 1)) rfl (by kernel_rfl) ?_
          simp only [Act.put, List.setIfInBounds_toArray, List.set_cons_zero, List.set_cons_succ]
          have NX : Hid (k + 1 ≤ n + 2 ∧ DS X3 b gs gm n L c S fu fz _ ∧ RSD X3 base n ⟨r, gN, gW, gI, cN, cW, cI, aN, aW, aI, pN, kN, pW, kW⟩ N W I fr _ ∧ Below w.heap.size w X3) := Lib.hid ⟨by have := HK.out; omega, F2.out⟩
          unfold wpList
          go_roundw
          case rel => first | exact ⟨k + 1, rfl, NX⟩ | ((repeat apply Exists.intro); exact ⟨⟨k + 1, rfl, NX⟩, rfl⟩)
          case measure => simp [intOf]; have := HK.out; omega
        · go_upto_region 6 with (fail)
          refine wp_region_lit ?_
          refine wpL_pure (.pointer (some ⟨b, 0, none⟩)) rfl (by kernel_rfl) ?_
          simp only [Act.put, List.setIfInBounds_toArray, List.set_cons_zero, List.set_cons_succ]
          refine wpL_pure (.int .i64 ((k : Int) - 1)) rfl (by kernel_rfl) ?_
          simp only [Act.put, List.setIfInBounds_toArray, List.set_cons_zero, List.set_cons_succ]
          refine wpL_call 12 #[.pointer (some ⟨b, 0, none⟩), .int .i64 ((k : Int) - 1)] rfl (by kernel_rfl) ((readD RI.out.2.1 ((k : Int) - 1)).mono ?_)
          rintro e W1 hrd
          obtain ⟨he, b1⟩ : e = .returned (.tuple #[.slice none 0 0, .int .i64 5]) ∧ Below wr.heap.size wr W1 := by
            rcases hrd with ⟨h1, _⟩ | ⟨_, _, he, hb⟩ | ⟨_, h2, _⟩
            · exact absurd (by have := HC.out; omega) h1
            · exact ⟨he, hb⟩
            · cases h2
          subst he
          have F2 : Hid (DS W1 b gs gm n L c S fu fz true ∧ RSD W1 base n ⟨r, gN, gW, gI, cN, cW, cI, aN, aW, aI, pN, kN, pW, kW⟩ N W I fr true ∧ Below w.heap.size w W1) := Lib.hid ⟨RI.out.2.1.below b1, RI.out.2.2.1.below b1, RI.out.2.2.2.trans (b1.mono RI.out.2.2.2.size)⟩
          clear b1 hrd
          refine ⟨_, rfl, ?_⟩
          simp only [Act.put, List.setIfInBounds_toArray, List.set_cons_zero, List.set_cons_succ]
          refine wpL_pure (.tuple #[.slice none 0 0, .int .i64 5]) rfl (by kernel_rfl) ?_
          simp only [Act.put, List.setIfInBounds_toArray, List.set_cons_zero, List.set_cons_succ]
          refine wpL_pure (.slice none 0 0) rfl (by kernel_rfl) ?_
          simp only [Act.put, List.setIfInBounds_toArray, List.set_cons_zero, List.set_cons_succ]
          refine wpL_pure (.int .i64 5) rfl (by kernel_rfl) ?_
          simp only [Act.put, List.setIfInBounds_toArray, List.set_cons_zero, List.set_cons_succ]
          refine wpL_pure (.slice none 0 0) rfl (by kernel_rfl) ?_
          simp only [Act.put, List.setIfInBounds_toArray, List.set_cons_zero, List.set_cons_succ]
          refine wpL_pure (.int .i64 5) rfl (by kernel_rfl) ?_
          simp only [Act.put, List.setIfInBounds_toArray, List.set_cons_zero, List.set_cons_succ]
          unfold wpList
          go_upto_region 7 with (fail)
          refine wp_region_lit ?_
          refine wpL_pure (.int .i64 ((k : Int) - 1)) rfl (by kernel_rfl) ?_
          simp only [Act.put, List.setIfInBounds_toArray, List.set_cons_zero, List.set_cons_succ]
          refine wpL_pure (.bool false) rfl (run_lti Try.underlying3 rfl rfl rfl (by have := HC.out; rw [decide_eq_false_iff_not]; omega)) ?_
          simp only [Act.put, List.setIfInBounds_toArray, List.set_cons_zero, List.set_cons_succ]
          refine wpL_pure (.bool false) rfl (by kernel_rfl) ?_
          simp only [Act.put, List.setIfInBounds_toArray, List.set_cons_zero, List.set_cons_succ]
          refine wpL_pure (.int .i64 ((k : Int) - 1)) rfl (by kernel_rfl) ?_
          simp only [Act.put, List.setIfInBounds_toArray, List.set_cons_zero, List.set_cons_succ]
          refine wpL_pure (.pointer (some ⟨r, 0, none⟩)) rfl (by kernel_rfl) ?_
          simp only [Act.put, List.setIfInBounds_toArray, List.set_cons_zero, List.set_cons_succ]
          refine wpL_pure (.pointer (some ⟨r, 0, none⟩)) rfl (by kernel_rfl) ?_
          simp only [Act.put, List.setIfInBounds_toArray, List.set_cons_zero, List.set_cons_succ]
          refine wpL_pure (.pointer (some ⟨r, 0, none⟩)) rfl (by kernel_rfl) ?_
          simp only [Act.put, List.setIfInBounds_toArray, List.set_cons_zero, List.set_cons_succ]
          refine wpL_pure (.slice aN n cN) rfl (run_load_one _ _ _ 56 _ _ rfl (r) (0) rfl (by rw [F2.out.2.1.cells.cell]; rfl) (by kernel_rfl)) ?_
          simp only [Act.put, List.setIfInBounds_toArray, List.set_cons_zero, List.set_cons_succ]
          refine wpL_pure (.int .i64 (n : Int)) rfl (by kernel_rfl) ?_
          simp only [Act.put, List.setIfInBounds_toArray, List.set_cons_zero, List.set_cons_succ]
          refine wpL_pure (.bool false) rfl (run_eqi Try.underlying3 rfl rfl rfl (by have := HC.out; rw [decide_eq_false_iff_not]; omega)) ?_
          simp only [Act.put, List.setIfInBounds_toArray, List.set_cons_zero, List.set_cons_succ]
          refine wpL_pure (.bool false) rfl (by kernel_rfl) ?_
          simp only [Act.put, List.setIfInBounds_toArray, List.set_cons_zero, List.set_cons_succ]
          go_upto_region 10 with (fail)
          refine region_held_all (fun X => DS X b gs gm n L c S fu fz true ∧ RSD X base n ⟨r, gN, gW, gI, cN, cW, cI, aN, aW, aI, pN, kN, pW, kW⟩ N W I fr true ∧ Below w.heap.size w X) (by kernel_rfl) (by kernel_rfl) (by exact ⟨F2.out.1.drewD, F2.out.2.1.below (Below.drew (Below.refl _ _)), F2.out.2.2.trans (Below.drew (Below.refl _ _))⟩) ?_
          refine wpHeld_cons (.pointer (some ⟨r, 0, none⟩)) rfl (fun w h => heldRun_value (by kernel_rfl) h) ?_
          simp only [Act.put, List.setIfInBounds_toArray, List.set_cons_zero, List.set_cons_succ]
          refine wpHeld_cons (.pointer (some ⟨r, 0, none⟩)) rfl (fun w h => heldRun_value (by kernel_rfl) h) ?_
          simp only [Act.put, List.setIfInBounds_toArray, List.set_cons_zero, List.set_cons_succ]
          refine wpHeld_cons (.pointer (some ⟨r, 4, none⟩)) rfl (fun w h => heldRun_value (by kernel_rfl) h) ?_
          simp only [Act.put, List.setIfInBounds_toArray, List.set_cons_zero, List.set_cons_succ]
          refine wpHeld_cons (.bool true) rfl (fun w h => heldRun_value (run_load_one _ _ _ 4 _ _ rfl (r) (4) rfl (by rw [h.2.1.cells.cell]; rfl) (by kernel_rfl)) h) ?_
          simp only [Act.put, List.setIfInBounds_toArray, List.set_cons_zero, List.set_cons_succ]
          refine wpHeld_cons (.bool true) rfl (fun w h => heldRun_value (by kernel_rfl) h) ?_
          simp only [Act.put, List.setIfInBounds_toArray, List.set_cons_zero, List.set_cons_succ]
          refine wpHeld_cons (.int .i64 5) rfl (fun w h => heldRun_value (by kernel_rfl) h) ?_
          simp only [Act.put, List.setIfInBounds_toArray, List.set_cons_zero, List.set_cons_succ]
          refine wpHeld_cons (.bool false) rfl (fun w h => heldRun_value (by kernel_rfl) h) ?_
          simp only [Act.put, List.setIfInBounds_toArray, List.set_cons_zero, List.set_cons_succ]
          refine wpHeld_cons (.bool false) rfl (fun w h => heldRun_value (by kernel_rfl) h) ?_
          simp only [Act.put, List.setIfInBounds_toArray, List.set_cons_zero, List.set_cons_succ]
          refine wpHeld_cons (.slice none 0 0) rfl (fun w h => heldRun_value (by kernel_rfl) h) ?_
          simp only [Act.put, List.setIfInBounds_toArray, List.set_cons_zero, List.set_cons_succ]
          refine wpHeld_cons (.int .i64 (0 : Int)) rfl (fun w h => heldRun_value (by kernel_rfl) h) ?_
          simp only [Act.put, List.setIfInBounds_toArray, List.set_cons_zero, List.set_cons_succ]
          refine wpHeld_cons (.bool false) rfl (fun w h => heldRun_value (by kernel_rfl) h) ?_
          simp only [Act.put, List.setIfInBounds_toArray, List.set_cons_zero, List.set_cons_succ]
          refine wpHeld_cons (.bool false) rfl (fun w h => heldRun_value (by kernel_rfl) h) ?_
          simp only [Act.put, List.setIfInBounds_toArray, List.set_cons_zero, List.set_cons_succ]
          refine wpHeld_cons (.bool false) rfl (fun w h => heldRun_value (by kernel_rfl) h) ?_
          simp only [Act.put, List.setIfInBounds_toArray, List.set_cons_zero, List.set_cons_succ]
          refine wpHeld_cons (.bool false) rfl (fun w h => heldRun_value (by kernel_rfl) h) ?_
          simp only [Act.put, List.setIfInBounds_toArray, List.set_cons_zero, List.set_cons_succ]
          refine wpHeld_cons (.pointer (some ⟨r, 0, none⟩)) rfl (fun w h => heldRun_value (by kernel_rfl) h) ?_
          simp only [Act.put, List.setIfInBounds_toArray, List.set_cons_zero, List.set_cons_succ]
          refine wpHeld_cons (.pointer (some ⟨r, 0, none⟩)) rfl (fun w h => heldRun_value (by kernel_rfl) h) ?_
          simp only [Act.put, List.setIfInBounds_toArray, List.set_cons_zero, List.set_cons_succ]
          refine wpHeld_cons (.pointer (some ⟨r, 4, none⟩)) rfl (fun w h => heldRun_value (by kernel_rfl) h) ?_
          simp only [Act.put, List.setIfInBounds_toArray, List.set_cons_zero, List.set_cons_succ]
          refine wpHeld_cons (.bool true) rfl (fun w h => heldRun_value (run_load_one _ _ _ 4 _ _ rfl (r) (4) rfl (by rw [h.2.1.cells.cell]; rfl) (by kernel_rfl)) h) ?_
          simp only [Act.put, List.setIfInBounds_toArray, List.set_cons_zero, List.set_cons_succ]
          refine wpHeld_cons (.bool false) rfl (fun w h => heldRun_value (by kernel_rfl) h) ?_
          simp only [Act.put, List.setIfInBounds_toArray, List.set_cons_zero, List.set_cons_succ]
          refine wpHeld_cons (.bool false) rfl (fun w h => heldRun_value (by kernel_rfl) h) ?_
          simp only [Act.put, List.setIfInBounds_toArray, List.set_cons_zero, List.set_cons_succ]
          refine wpHeld_skip rfl ?_
          simp only [Act.put, List.setIfInBounds_toArray, List.set_cons_zero, List.set_cons_succ]
          refine wpHeld_skip rfl ?_
          simp only [Act.put, List.setIfInBounds_toArray, List.set_cons_zero, List.set_cons_succ]
          refine wpHeld_skip rfl ?_
          simp only [Act.put, List.setIfInBounds_toArray, List.set_cons_zero, List.set_cons_succ]
          refine wpHeld_skip rfl ?_
          simp only [Act.put, List.setIfInBounds_toArray, List.set_cons_zero, List.set_cons_succ]
          refine wpHeld_skip rfl ?_
          simp only [Act.put, List.setIfInBounds_toArray, List.set_cons_zero, List.set_cons_succ]
          refine wpHeld_skip rfl ?_
          simp only [Act.put, List.setIfInBounds_toArray, List.set_cons_zero, List.set_cons_succ]
          refine wpHeld_skip rfl ?_
          simp only [Act.put, List.setIfInBounds_toArray, List.set_cons_zero, List.set_cons_succ]
          refine wpHeld_skip rfl ?_
          simp only [Act.put, List.setIfInBounds_toArray, List.set_cons_zero, List.set_cons_succ]
          refine wpHeld_skip rfl ?_
          simp only [Act.put, List.setIfInBounds_toArray, List.set_cons_zero, List.set_cons_succ]
          refine wpHeld_skip rfl ?_
          simp only [Act.put, List.setIfInBounds_toArray, List.set_cons_zero, List.set_cons_succ]
          refine wpHeld_skip rfl ?_
          simp only [Act.put, List.setIfInBounds_toArray, List.set_cons_zero, List.set_cons_succ]
          refine wpHeld_skip rfl ?_
          simp only [Act.put, List.setIfInBounds_toArray, List.set_cons_zero, List.set_cons_succ]
          refine wpHeld_skip rfl ?_
          simp only [Act.put, List.setIfInBounds_toArray, List.set_cons_zero, List.set_cons_succ]
          refine wpHeld_skip rfl ?_
          simp only [Act.put, List.setIfInBounds_toArray, List.set_cons_zero, List.set_cons_succ]
          refine wpHeld_skip rfl ?_
          simp only [Act.put, List.setIfInBounds_toArray, List.set_cons_zero, List.set_cons_succ]
          refine wpHeld_cons (.bool false) rfl (fun w h => heldRun_value (by kernel_rfl) h) ?_
          simp only [Act.put, List.setIfInBounds_toArray, List.set_cons_zero, List.set_cons_succ]
          refine wpHeld_cons (.bool false) rfl (fun w h => heldRun_value (by kernel_rfl) h) ?_
          simp only [Act.put, List.setIfInBounds_toArray, List.set_cons_zero, List.set_cons_succ]
          refine wpHeld_nil ?_
          intro X3 h
          have F3 := Lib.hid h
          clear h F2
          have F2 := F3
          clear F3
          go_upto_region 5 with (fail)
          refine wp_region_lit ?_
          refine wpL_pure (.int .i64 ((k : Int) - 1)) rfl (by kernel_rfl) ?_
          simp only [Act.put, List.setIfInBounds_toArray, List.set_cons_zero, List.set_cons_succ]
          refine wpL_pure (.int .i64 (((k + 1 : Nat) : Int) - 1)) rfl (run_addi Try.underlying3 rfl rfl rfl _ (by have := HK.out; have := HN.out; rw [wrap_in _ (by omega) (by omega)]; omega)) ?_
          simp only [Act.put, List.setIfInBounds_toArray, List.set_cons_zero, List.set_cons_succ]
          refine wpL_pure (.int .i64 (((k + 1 : Nat) : Int) - 1)) rfl (by kernel_rfl) ?_
          simp only [Act.put, List.setIfInBounds_toArray, List.set_cons_zero, List.set_cons_succ]
          have NX : Hid (k + 1 ≤ n + 2 ∧ DS X3 b gs gm n L c S fu fz _ ∧ RSD X3 base n ⟨r, gN, gW, gI, cN, cW, cI, aN, aW, aI, pN, kN, pW, kW⟩ N W I fr _ ∧ Below w.heap.size w X3) := Lib.hid ⟨by have := HK.out; omega, F2.out⟩
          unfold wpList
          go_roundw
          case rel => first | exact ⟨k + 1, rfl, NX⟩ | ((repeat apply Exists.intro); exact ⟨⟨k + 1, rfl, NX⟩, rfl⟩)
          case measure => simp [intOf]; have := HK.out; omega
      · have HC := Lib.hid hin
        clear hin
        go_upto_region 6 with (fail)
        refine wp_region_lit ?_
        refine wpL_pure (.pointer (some ⟨b, 0, none⟩)) rfl (by kernel_rfl) ?_
        simp only [Act.put, List.setIfInBounds_toArray, List.set_cons_zero, List.set_cons_succ]
        refine wpL_pure (.int .i64 ((k : Int) - 1)) rfl (by kernel_rfl) ?_
        simp only [Act.put, List.setIfInBounds_toArray, List.set_cons_zero, List.set_cons_succ]
        refine wpL_call 12 #[.pointer (some ⟨b, 0, none⟩), .int .i64 ((k : Int) - 1)] rfl (by kernel_rfl) ((readD RI.out.2.1 ((k : Int) - 1)).mono ?_)
        rintro e W1 hrd
        obtain ⟨he, b1⟩ : e = .returned (.tuple #[.slice none 0 0, .int .i64 1]) ∧ Below wr.heap.size wr W1 := by
          rcases hrd with ⟨_, he, hb⟩ | ⟨h1, _⟩ | ⟨h1, _⟩
          · exact ⟨he, hb⟩
          · exact absurd h1 (by have := HC.out; have := HK.out; omega)
          · exact absurd h1 (by have := HC.out; have := HK.out; omega)
        subst he
        have F2 : Hid (DS W1 b gs gm n L c S fu fz go ∧ RSD W1 base n ⟨r, gN, gW, gI, cN, cW, cI, aN, aW, aI, pN, kN, pW, kW⟩ N W I fr go ∧ Below w.heap.size w W1) := Lib.hid ⟨RI.out.2.1.below b1, RI.out.2.2.1.below b1, RI.out.2.2.2.trans (b1.mono RI.out.2.2.2.size)⟩
        clear b1 hrd
        refine ⟨_, rfl, ?_⟩
        simp only [Act.put, List.setIfInBounds_toArray, List.set_cons_zero, List.set_cons_succ]
        refine wpL_pure (.tuple #[.slice none 0 0, .int .i64 1]) rfl (by kernel_rfl) ?_
        simp only [Act.put, List.setIfInBounds_toArray, List.set_cons_zero, List.set_cons_succ]
        refine wpL_pure (.slice none 0 0) rfl (by kernel_rfl) ?_
        simp only [Act.put, List.setIfInBounds_toArray, List.set_cons_zero, List.set_cons_succ]
        refine wpL_pure (.int .i64 1) rfl (by kernel_rfl) ?_
        simp only [Act.put, List.setIfInBounds_toArray, List.set_cons_zero, List.set_cons_succ]
        refine wpL_pure (.slice none 0 0) rfl (by kernel_rfl) ?_
        simp only [Act.put, List.setIfInBounds_toArray, List.set_cons_zero, List.set_cons_succ]
        refine wpL_pure (.int .i64 1) rfl (by kernel_rfl) ?_
        simp only [Act.put, List.setIfInBounds_toArray, List.set_cons_zero, List.set_cons_succ]
        unfold wpList
        by_cases hz : k = 0
        · have HZ := Lib.hid hz
          clear hz
          go_upto_region 7 with (fail)
          refine wp_region_lit ?_
          refine wpL_pure (.int .i64 ((k : Int) - 1)) rfl (by kernel_rfl) ?_
          simp only [Act.put, List.setIfInBounds_toArray, List.set_cons_zero, List.set_cons_succ]
          refine wpL_pure (.bool true) rfl (run_lti Try.underlying3 rfl rfl rfl (by have := HZ.out; rw [decide_eq_true_eq]; omega)) ?_
          simp only [Act.put, List.setIfInBounds_toArray, List.set_cons_zero, List.set_cons_succ]
          refine wpL_pure (.bool true) rfl (by kernel_rfl) ?_
          simp only [Act.put, List.setIfInBounds_toArray, List.set_cons_zero, List.set_cons_succ]
          refine wpL_skip (by kernel_rfl) ?_
          simp only [Act.put, List.setIfInBounds_toArray, List.set_cons_zero, List.set_cons_succ]
          refine wpL_skip (by kernel_rfl) ?_
          simp only [Act.put, List.setIfInBounds_toArray, List.set_cons_zero, List.set_cons_succ]
          refine wpL_skip (by kernel_rfl) ?_
          simp only [Act.put, List.setIfInBounds_toArray, List.set_cons_zero, List.set_cons_succ]
          refine wpL_skip (by kernel_rfl) ?_
          simp only [Act.put, List.setIfInBounds_toArray, List.set_cons_zero, List.set_cons_succ]
          refine wpL_skip (by kernel_rfl) ?_
          simp only [Act.put, List.setIfInBounds_toArray, List.set_cons_zero, List.set_cons_succ]
          refine wpL_skip (by kernel_rfl) ?_
          simp only [Act.put, List.setIfInBounds_toArray, List.set_cons_zero, List.set_cons_succ]
          refine wpL_skip (by kernel_rfl) ?_
          simp only [Act.put, List.setIfInBounds_toArray, List.set_cons_zero, List.set_cons_succ]
          refine wpL_pure (.bool true) rfl (by kernel_rfl) ?_
          simp only [Act.put, List.setIfInBounds_toArray, List.set_cons_zero, List.set_cons_succ]
          go_upto_region 8 with (fail)
          refine wp_region_lit ?_
          refine wpL_pure (.int .i64 1) rfl (by kernel_rfl) ?_
          simp only [Act.put, List.setIfInBounds_toArray, List.set_cons_zero, List.set_cons_succ]
          refine wpL_pure (.bool false) rfl (by kernel_rfl) ?_
          simp only [Act.put, List.setIfInBounds_toArray, List.set_cons_zero, List.set_cons_succ]
          refine wpL_pure (.bool false) rfl (by kernel_rfl) ?_
          simp only [Act.put, List.setIfInBounds_toArray, List.set_cons_zero, List.set_cons_succ]
          refine wpL_pure (.slice none 0 0) rfl (by kernel_rfl) ?_
          simp only [Act.put, List.setIfInBounds_toArray, List.set_cons_zero, List.set_cons_succ]
          refine wpL_pure (.int .i64 (0 : Int)) rfl (by kernel_rfl) ?_
          simp only [Act.put, List.setIfInBounds_toArray, List.set_cons_zero, List.set_cons_succ]
          refine wpL_pure (.bool false) rfl (by kernel_rfl) ?_
          simp only [Act.put, List.setIfInBounds_toArray, List.set_cons_zero, List.set_cons_succ]
          refine wpL_pure (.bool false) rfl (by kernel_rfl) ?_
          simp only [Act.put, List.setIfInBounds_toArray, List.set_cons_zero, List.set_cons_succ]
          go_upto_region 5 with (fail)
          refine wp_region_lit ?_
          refine wpL_pure (.int .i64 ((k : Int) - 1)) rfl (by kernel_rfl) ?_
          simp only [Act.put, List.setIfInBounds_toArray, List.set_cons_zero, List.set_cons_succ]
          refine wpL_pure (.int .i64 (((k + 1 : Nat) : Int) - 1)) rfl (run_addi Try.underlying3 rfl rfl rfl _ (by have := HK.out; have := HN.out; rw [wrap_in _ (by omega) (by omega)]; omega)) ?_
          simp only [Act.put, List.setIfInBounds_toArray, List.set_cons_zero, List.set_cons_succ]
          refine wpL_pure (.int .i64 (((k + 1 : Nat) : Int) - 1)) rfl (by kernel_rfl) ?_
          simp only [Act.put, List.setIfInBounds_toArray, List.set_cons_zero, List.set_cons_succ]
          have NX : Hid (k + 1 ≤ n + 2 ∧ DS W1 b gs gm n L c S fu fz go ∧ RSD W1 base n ⟨r, gN, gW, gI, cN, cW, cI, aN, aW, aI, pN, kN, pW, kW⟩ N W I fr go ∧ Below w.heap.size w W1) := Lib.hid ⟨by have := HK.out; omega, F2.out⟩
          unfold wpList
          go_roundw
          case rel => first | exact ⟨k + 1, rfl, NX⟩ | ((repeat apply Exists.intro); exact ⟨⟨k + 1, rfl, NX⟩, rfl⟩)
          case measure => simp [intOf]; have := HK.out; omega
        · have HZ := Lib.hid hz
          clear hz
          go_upto_region 7 with (fail)
          refine wp_region_lit ?_
          refine wpL_pure (.int .i64 ((k : Int) - 1)) rfl (by kernel_rfl) ?_
          simp only [Act.put, List.setIfInBounds_toArray, List.set_cons_zero, List.set_cons_succ]
          refine wpL_pure (.bool false) rfl (run_lti Try.underlying3 rfl rfl rfl (by have := HZ.out; rw [decide_eq_false_iff_not]; omega)) ?_
          simp only [Act.put, List.setIfInBounds_toArray, List.set_cons_zero, List.set_cons_succ]
          refine wpL_pure (.bool false) rfl (by kernel_rfl) ?_
          simp only [Act.put, List.setIfInBounds_toArray, List.set_cons_zero, List.set_cons_succ]
          refine wpL_pure (.int .i64 ((k : Int) - 1)) rfl (by kernel_rfl) ?_
          simp only [Act.put, List.setIfInBounds_toArray, List.set_cons_zero, List.set_cons_succ]
          refine wpL_pure (.pointer (some ⟨r, 0, none⟩)) rfl (by kernel_rfl) ?_
          simp only [Act.put, List.setIfInBounds_toArray, List.set_cons_zero, List.set_cons_succ]
          refine wpL_pure (.pointer (some ⟨r, 0, none⟩)) rfl (by kernel_rfl) ?_
          simp only [Act.put, List.setIfInBounds_toArray, List.set_cons_zero, List.set_cons_succ]
          refine wpL_pure (.pointer (some ⟨r, 0, none⟩)) rfl (by kernel_rfl) ?_
          simp only [Act.put, List.setIfInBounds_toArray, List.set_cons_zero, List.set_cons_succ]
          refine wpL_pure (.slice aN n cN) rfl (run_load_one _ _ _ 56 _ _ rfl (r) (0) rfl (by rw [F2.out.2.1.cells.cell]; rfl) (by kernel_rfl)) ?_
          simp only [Act.put, List.setIfInBounds_toArray, List.set_cons_zero, List.set_cons_succ]
          refine wpL_pure (.int .i64 (n : Int)) rfl (by kernel_rfl) ?_
          simp only [Act.put, List.setIfInBounds_toArray, List.set_cons_zero, List.set_cons_succ]
          refine wpL_pure (.bool true) rfl (run_eqi Try.underlying3 rfl rfl rfl (by have := HZ.out; have := HC.out; have := HK.out; rw [decide_eq_true_eq]; omega)) ?_
          simp only [Act.put, List.setIfInBounds_toArray, List.set_cons_zero, List.set_cons_succ]
          refine wpL_pure (.bool true) rfl (by kernel_rfl) ?_
          simp only [Act.put, List.setIfInBounds_toArray, List.set_cons_zero, List.set_cons_succ]
          go_upto_region 8 with (fail)
          refine wp_region_lit ?_
          refine wpL_pure (.int .i64 1) rfl (by kernel_rfl) ?_
          simp only [Act.put, List.setIfInBounds_toArray, List.set_cons_zero, List.set_cons_succ]
          refine wpL_pure (.bool false) rfl (by kernel_rfl) ?_
          simp only [Act.put, List.setIfInBounds_toArray, List.set_cons_zero, List.set_cons_succ]
          refine wpL_pure (.bool false) rfl (by kernel_rfl) ?_
          simp only [Act.put, List.setIfInBounds_toArray, List.set_cons_zero, List.set_cons_succ]
          refine wpL_pure (.slice none 0 0) rfl (by kernel_rfl) ?_
          simp only [Act.put, List.setIfInBounds_toArray, List.set_cons_zero, List.set_cons_succ]
          refine wpL_pure (.int .i64 (0 : Int)) rfl (by kernel_rfl) ?_
          simp only [Act.put, List.setIfInBounds_toArray, List.set_cons_zero, List.set_cons_succ]
          refine wpL_pure (.bool false) rfl (by kernel_rfl) ?_
          simp only [Act.put, List.setIfInBounds_toArray, List.set_cons_zero, List.set_cons_succ]
          refine wpL_pure (.bool false) rfl (by kernel_rfl) ?_
          simp only [Act.put, List.setIfInBounds_toArray, List.set_cons_zero, List.set_cons_succ]
          go_upto_region 5 with (fail)
          refine wp_region_lit ?_
          refine wpL_pure (.int .i64 ((k : Int) - 1)) rfl (by kernel_rfl) ?_
          simp only [Act.put, List.setIfInBounds_toArray, List.set_cons_zero, List.set_cons_succ]
          refine wpL_pure (.int .i64 (((k + 1 : Nat) : Int) - 1)) rfl (run_addi Try.underlying3 rfl rfl rfl _ (by have := HK.out; have := HN.out; rw [wrap_in _ (by omega) (by omega)]; omega)) ?_
          simp only [Act.put, List.setIfInBounds_toArray, List.set_cons_zero, List.set_cons_succ]
          refine wpL_pure (.int .i64 (((k + 1 : Nat) : Int) - 1)) rfl (by kernel_rfl) ?_
          simp only [Act.put, List.setIfInBounds_toArray, List.set_cons_zero, List.set_cons_succ]
          have NX : Hid (k + 1 ≤ n + 2 ∧ DS W1 b gs gm n L c S fu fz go ∧ RSD W1 base n ⟨r, gN, gW, gI, cN, cW, cI, aN, aW, aI, pN, kN, pW, kW⟩ N W I fr go ∧ Below w.heap.size w W1) := Lib.hid ⟨by have := HK.out; omega, F2.out⟩
          unfold wpList
          go_roundw
          case rel => first | exact ⟨k + 1, rfl, NX⟩ | ((repeat apply Exists.intro); exact ⟨⟨k + 1, rfl, NX⟩, rfl⟩)
          case measure => simp [intOf]; have := HK.out; omega
    · have HK := Lib.hid hlt
      clear hlt
      go_upto_region 4 with (fail)
      refine wp_region_lit ?_
      refine wpL_pure (.int .i64 ((k : Int) - 1)) rfl (by kernel_rfl) ?_
      simp only [Act.put, List.setIfInBounds_toArray, List.set_cons_zero, List.set_cons_succ]
      refine wpL_pure (.pointer (some ⟨r, 0, none⟩)) rfl (by kernel_rfl) ?_
      simp only [Act.put, List.setIfInBounds_toArray, List.set_cons_zero, List.set_cons_succ]
      refine wpL_pure (.pointer (some ⟨r, 0, none⟩)) rfl (by kernel_rfl) ?_
      simp only [Act.put, List.setIfInBounds_toArray, List.set_cons_zero, List.set_cons_succ]
      refine wpL_pure (.pointer (some ⟨r, 0, none⟩)) rfl (by kernel_rfl) ?_
      simp only [Act.put, List.setIfInBounds_toArray, List.set_cons_zero, List.set_cons_succ]
      refine wpL_pure (.slice aN n cN) rfl (run_load_one _ _ _ 56 _ _ rfl (r) (0) rfl (by rw [RI.out.2.2.1.cells.cell]; rfl) (by kernel_rfl)) ?_
      simp only [Act.put, List.setIfInBounds_toArray, List.set_cons_zero, List.set_cons_succ]
      refine wpL_pure (.int .i64 (n : Int)) rfl (by kernel_rfl) ?_
      simp only [Act.put, List.setIfInBounds_toArray, List.set_cons_zero, List.set_cons_succ]
      refine wpL_pure (.bool false) rfl (run_lei Try.underlying3 rfl rfl rfl (by have := HK.out; rw [decide_eq_false_iff_not]; omega)) ?_
      simp only [Act.put, List.setIfInBounds_toArray, List.set_cons_zero, List.set_cons_succ]
      go_upto_region 12 with (fail)
      refine wp_region_lit ?_
      refine wpL_pure (.bool true) rfl (by kernel_rfl) ?_
      simp only [Act.put, List.setIfInBounds_toArray, List.set_cons_zero, List.set_cons_succ]
      go_wp2_with fail
      go_ret
      exact ⟨rfl, ⟨L, c, S, fu, fz, go, N, W, I, fr, RI.out.2.1, ⟨_, rfl, RI.out.2.2.1⟩, HL.out, HQ.out, HBS.out⟩, RI.out.2.2.2⟩
end Go.Proofs.Yticjpjbmjnalhaa
