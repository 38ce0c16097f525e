import Derived.Test.YtdhpgadhdgpbdaaG9
namespace Go.Proofs.Ytdhpgadhdgpbdaa
open Go.RowKit

theorem is_at (g : Grp) (x : Int) (k : Nat) (hk : k < 6) (hx : x = (k : Int) + 1) (hr : g.M k = true) (w : World) :
    Calls Try.prog 12 #[.agg g.cells.toArray, .int .i64 x] w fun e w' => e = .returned (.bool true) ∧ Below w.heap.size w w' := by
  subst hx
  have h := is_yes w g k hk
  rw [hr] at h
  exact h
set_option maxRecDepth 100000 in
set_option maxHeartbeats 8000000 in
theorem walkKeeps (b off len cap : Nat) (w : World) (hl0 : 0 < len) (hst : ∀ k, k < len → ∃ wr op mb cut : Int, w.cell? ⟨b, off + k * 4, none⟩ = some (.int .i64 wr) ∧ w.cell? ⟨b, off + k * 4 + 1, none⟩ = some (.int .i64 op) ∧ w.cell? ⟨b, off + k * 4 + 2, none⟩ = some (.int .i64 mb) ∧ w.cell? ⟨b, off + k * 4 + 3, none⟩ = some (.int .u64 cut)) (hlen : len ≤ 60) :
    Calls Try.prog 5 #[.slice (some ⟨b, off, none⟩) len cap] w fun e w' => e = .returned (.bool true) ∧ Below w.heap.size w w' := by
  have HST := Lib.hid hst
  have HL := Lib.hid hlen
  have BLT : Hid (b < w.heap.size) := Lib.hid (by
    obtain ⟨_, _, _, _, h, _⟩ := hst 0 hl0
    exact World.block_lt_of_cell? w _ h)
  have hl : ((60 : Int) < (len : Int)) = False := by simp; omega
  clear hst hlen hl0
  go_enter Try.func5, Try.ntmps5
  go_wp2_with (go_at_call 6; refine (awake_any _).mono ?_; rintro e w1 ⟨rfl, hb⟩)
  obtain ⟨W, hW⟩ : ∃ V, V = w1.alloc (.cells #[.int .i64 0, .int .i64 0, .bool false, .bool false, .bool false, .bool false, .bool false, .bool false, .bool false, .bool false, .bool false, .bool false, .bool false, .bool false, .int .u64 0, .int .u64 0, .int .u64 0, .int .u64 0, .int .u64 0, .int .u64 0, .int .i64 0] 28) := ⟨_, rfl⟩
  rw [← hW]
  have hg0 : IsG W w1.heap.size zg := by rw [hW]; exact Blk.new _ _ _
  have hR : Rd w1.heap.size w.heap.size w 0 W := ⟨zg, inv_zero, by decide, by decide, hg0, by rw [hW]; exact hb.alloc hb.size _⟩
  have HR := Lib.hid hR
  have HS : Hid (w.heap.size ≤ w1.heap.size) := Lib.hid hb.size
  clear hR hg0 hW hb hl
  generalize w1.heap.size = bg at *
  generalize hB : w.heap.size = B at *
  have EB := Lib.hid hB
  have LE : Hid (B ≤ w.heap.size) := Lib.hid (by omega)
  clear hB
  go_loopw [4] (fun s4 wr => ∃ k : Nat, k ≤ len ∧ s4 = .int .i64 k ∧ Hid (Rd bg B w k wr)) (fun s4 _ => len - (intOf s4).toNat)
  case atStart => exact ⟨0, Nat.zero_le _, rfl, HR⟩
  case round =>
    clear HR
    obtain ⟨k, hk, rfl, RI⟩ := hrel
    have HLK := Lib.hid hk
    by_cases hlt : k < len
    · obtain ⟨g, hI, s0, s1, hg, hbw⟩ := RI.out
      obtain ⟨wri, op, mb, cut, d0, d1, d2, d3⟩ := HST.out k hlt
      have hbl : b < B := by have := BLT.out; omega
      have c0 : wr.cell? ⟨b, off + k * 4, none⟩ = some (.int .i64 wri) := (hbw.cell (p := ⟨b, off + k * 4, none⟩) hbl).trans d0
      have c1 : wr.cell? ⟨b, off + k * 4 + 1, none⟩ = some (.int .i64 op) := (hbw.cell (p := ⟨b, off + k * 4 + 1, none⟩) hbl).trans d1
      have c2 : wr.cell? ⟨b, off + k * 4 + 2, none⟩ = some (.int .i64 mb) := (hbw.cell (p := ⟨b, off + k * 4 + 2, none⟩) hbl).trans d2
      have c3 : wr.cell? ⟨b, off + k * 4 + 3, none⟩ = some (.int .u64 cut) := (hbw.cell (p := ⟨b, off + k * 4 + 3, none⟩) hbl).trans d3
      have HI := Lib.hid hI
      have S0 := Lib.hid s0
      have S1 := Lib.hid s1
      have HG := Lib.hid hg
      have hgl : Hid (bg < wr.heap.size) := Lib.hid hg.lt
      have BW := Lib.hid hbw
      clear hI s0 s1 hg hbw hbl d0 d1 d2 d3 RI hk
      have i0 : (0 : Int) ≤ (k : Int) := by omega
      have i1 : (k : Int) < (len : Int) := by omega
      have i2 : (len : Int) ≤ 60 := by have := HL.out; omega
      go_upto_region 8 with (fail)
      obtain ⟨W8, hW⟩ : ∃ V, V = wr.alloc (.cells #[.int .i64 wri, .int .i64 op, .int .i64 mb, .int .u64 cut] 30) := ⟨_, rfl⟩
      rw [← hW]
      have hq : Blk W8 wr.heap.size 30 #[.int .i64 wri, .int .i64 op, .int .i64 mb, .int .u64 cut] := by rw [hW]; exact Blk.new _ _ _
      replace HG : Hid (IsG W8 bg g) := Lib.hid (by rw [hW]; exact Blk.alloc HG.out _)
      replace BW : Hid (Below B w W8) := Lib.hid (by rw [hW]; exact BW.out.alloc (by have := BW.out.size; rw [← EB.out]; exact this) _)
      clear hW c0 c1 c2 c3 hgl
      generalize wr.heap.size = bs at *
      have e0 : W8.cell? ⟨bs, 0, none⟩ = some (.int .i64 wri) := hq.cell 0
      have e1 : W8.cell? ⟨bs, 1, none⟩ = some (.int .i64 op) := hq.cell 1
      have e2 : W8.cell? ⟨bs, 2, none⟩ = some (.int .i64 mb) := hq.cell 2
      have e3 : W8.cell? ⟨bs, 3, none⟩ = some (.int .u64 cut) := hq.cell 3
      have HQ := Lib.hid hq
      clear hq
      go_wp2_with (refine wpL_load 28 _ rfl (by rfl) bg 0 rfl g.cells _ (range_blk HG.out) Try.underlying28 rfl (sizeG _) ?_)
      refine (may_any _ g wri op mb).mono ?_
      rintro e w2 ⟨rfl, hb2⟩
      replace HG : Hid (IsG w2 bg g) := Lib.hid (Blk.keep HG.out hb2 HG.out.lt)
      replace BW : Hid (Below B w w2) := Lib.hid (BW.out.trans (hb2.mono (by have := BW.out.size; rw [← EB.out]; exact this)))
      replace HQ : Hid (Blk w2 bs 30 #[.int .i64 wri, .int .i64 op, .int .i64 mb, .int .u64 cut]) := Lib.hid (Blk.keep HQ.out hb2 HQ.out.lt)
      clear hb2 e0 e1 e2 e3
      by_cases hm : mayI g wri op mb = 0
      · rw [hm]
        have HM := Lib.hid hm
        clear hm
        have hs := stepped g wri op mb cut HI.out HM.out
        have ST := Lib.hid hs
        clear hs
        have e0 : w2.cell? ⟨bs, 0, none⟩ = some (.int .i64 wri) := HQ.out.cell 0
        have e1 : w2.cell? ⟨bs, 1, none⟩ = some (.int .i64 op) := HQ.out.cell 1
        have e2 : w2.cell? ⟨bs, 2, none⟩ = some (.int .i64 mb) := HQ.out.cell 2
        have e3 : w2.cell? ⟨bs, 3, none⟩ = some (.int .u64 cut) := HQ.out.cell 3
        go_wp2_with (refine wpL_load 28 _ rfl (by rfl) bg 0 rfl g.cells _ (range_blk HG.out) Try.underlying28 rfl (sizeG _) ?_)
        have HK60 : Hid (k < 60) := Lib.hid (by have := HL.out; omega)
        refine (behind_any _ g wri op mb cut (by have := HI.out.e0; omega) (by have := HI.out.e1; omega) S0.out (by have := S1.out; have := HK60.out; omega)).mono ?_
        rintro e w3 ⟨rfl, hb3⟩
        replace HG : Hid (IsG w3 bg g) := Lib.hid (Blk.keep HG.out hb3 HG.out.lt)
        replace BW : Hid (Below B w w3) := Lib.hid (BW.out.trans (hb3.mono (by have := BW.out.size; rw [← EB.out]; exact this)))
        clear hb3 e0 e1 e2 e3 HQ HM
        generalize hgn : behindG g wri op mb cut = g' at *
        clear hgn
        have bn0 : Blk (w3.alloc (.cells #[.int .i64 0, .int .i64 0, .bool false, .bool false, .bool false, .bool false, .bool false, .bool false, .bool false, .bool false, .bool false, .bool false, .bool false, .bool false, .int .u64 0, .int .u64 0, .int .u64 0, .int .u64 0, .int .u64 0, .int .u64 0, .int .i64 0] 28)) w3.heap.size 28 #[.int .i64 0, .int .i64 0, .bool false, .bool false, .bool false, .bool false, .bool false, .bool false, .bool false, .bool false, .bool false, .bool false, .bool false, .bool false, .int .u64 0, .int .u64 0, .int .u64 0, .int .u64 0, .int .u64 0, .int .u64 0, .int .i64 0] := Blk.new _ _ _
        have BN := Lib.hid bn0
        clear bn0
        go_upto_region 10 with (refine wpList_store_row rfl 28 _ _ rfl w3.heap.size _ rfl rfl 28 _ BN.out (sizeG _) rfl (one_cells _) ?_)
        simp only [Act.put, List.setIfInBounds_toArray, List.set_cons_zero, List.set_cons_succ]
        obtain ⟨w4, hW⟩ : ∃ V, V = (w3.alloc (.cells #[.int .i64 0, .int .i64 0, .bool false, .bool false, .bool false, .bool false, .bool false, .bool false, .bool false, .bool false, .bool false, .bool false, .bool false, .bool false, .int .u64 0, .int .u64 0, .int .u64 0, .int .u64 0, .int .u64 0, .int .u64 0, .int .i64 0] 28)).setRow w3.heap.size g'.cells.toArray := ⟨_, rfl⟩
        rw [← hW]
        have hbl : B ≤ w3.heap.size := by have := BW.out.size; have := LE.out; omega
        have HN : Hid (IsG w4 w3.heap.size g') := Lib.hid (by rw [hW]; exact setRow_heap _ _ _ _ _ _ BN.out)
        have NE : Hid (bg ≠ w3.heap.size) := Lib.hid (Nat.ne_of_lt HG.out.lt)
        replace HG : Hid (IsG w4 bg g) := Lib.hid (by rw [hW]; exact (setRow_other _ _ _ _ NE.out).trans (Blk.alloc HG.out _))
        replace BW : Hid (Below B w w4) := Lib.hid (by rw [hW]; exact below_setRow (BW.out.alloc hbl _) hbl _)
        clear hW BN hbl
        generalize w3.heap.size = bn at *
        have KO : Hid (∀ w, Calls Try.prog 12 #[.agg g'.cells.toArray, .int .i64 g'.o] w fun e w' => e = .returned (.bool true) ∧ Below w.heap.size w w') := Lib.hid (by
          obtain ⟨ko, h1, h2, h3⟩ := ST.out.own
          exact is_at g' _ ko h1 h2 h3)
        have e0 : w4.cell? ⟨bn, 0, none⟩ = some (.int .i64 g'.o) := HN.out.o
        go_wp2_with (refine wpL_load 28 _ rfl (by rfl) bn 0 rfl g'.cells _ (range_blk HN.out) Try.underlying28 rfl (sizeG _) ?_)
        refine (KO.out _).mono ?_
        rintro e w5 ⟨rfl, hb5⟩
        have hS5 : SK bg bn B w g g' w5 := SK.step ⟨BW.out, HG.out, HN.out⟩ LE.out hb5
        have HS5 := Lib.hid hS5
        have e1 : w5.cell? ⟨bn, 1, none⟩ = some (.int .i64 g'.e) := hS5.2.2.e
        have e2 : w5.cell? ⟨bg, 1, none⟩ = some (.int .i64 g.e) := hS5.2.1.e
        have t1 : decide (g'.e < g.e) = false := by have := ST.out.e; simp; omega
        have t2 : decide (255 < g'.e) = false := by have := ST.out.inv.e1; simp; omega
        clear hb5 hS5 e0 HG HN BW
        go_wp2
        clear e1 e2 t1 t2
        go_loopw [7] (fun s7 wr => ∃ j : Nat, j ≤ 6 ∧ s7 = .int .i64 ((j : Int) + 1) ∧ Hid (SK bg bn B w g g' wr)) (fun s7 _ => 8 - (intOf s7).toNat)
        case atStart => exact ⟨0, by omega, rfl, HS5⟩
        case round =>
          clear HS5
          obtain ⟨j, hj, rfl, RJ⟩ := hrel
          by_cases hj6 : j < 6
          · have j0 : (0 : Int) ≤ (j : Int) := by omega
            have j1 : (j : Int) < 6 := by omega
            have j2 : (j : Int) + 1 ≤ 6 := by omega
            have HJ := Lib.hid hj6
            clear hj hj6
            have hap : ¬ (g'.M j = true ∧ g'.G j = true) := fun h => by have := ST.out.inv.apart j HJ.out h.1; rw [this] at h; cases h.2
            have hgo := ST.out.gone j HJ.out
            have AP := Lib.hid hap
            have GO := Lib.hid hgo
            clear hap hgo
            go_upto_region 15 with (fail)
            have hS : SK bg bn B w g g' wr.drew := ⟨RJ.out.1.drew, RJ.out.2.1, RJ.out.2.2⟩
            have cM : ∀ X, SK bg bn B w g g' X → X.cell? ⟨bn, 2 + j, none⟩ = some (.bool (g'.M j)) := fun X h => h.2.2.cm j HJ.out
            have cG : ∀ X, SK bg bn B w g g' X → X.cell? ⟨bn, 8 + j, none⟩ = some (.bool (g'.G j)) := fun X h => h.2.2.cg j HJ.out
            have cC : ∀ X, SK bg bn B w g g' X → X.cell? ⟨bn, 14 + j, none⟩ = some (.int .u64 (g'.C j)) := fun X h => h.2.2.cc j HJ.out
            have dG : ∀ X, SK bg bn B w g g' X → X.cell? ⟨bg, 8 + j, none⟩ = some (.bool (g.G j)) := fun X h => h.2.1.cg j HJ.out
            have dC : ∀ X, SK bg bn B w g g' X → X.cell? ⟨bg, 14 + j, none⟩ = some (.int .u64 (g.C j)) := fun X h => h.2.1.cc j HJ.out
            have AP' := AP.out
            have GO' := GO.out
            clear RJ AP GO
            generalize g'.M j = m at cM AP'
            generalize g'.G j = l at cG AP' GO'
            generalize g.G j = l0 at dG GO'
            generalize g'.C j = c at cC GO'
            generalize g.C j = c0 at dC GO'
            have fin : ∀ x : Bool × Bool, x = (m, l) → True := fun _ _ => trivial
            clear fin
            cases m <;> cases l <;> cases l0
            · clear AP' GO'
              refine region_held (SK bg bn B w g g') 39 (by kernel_rfl) (by kernel_rfl) hS ?_
              simp only [List.take_succ_cons, List.take_zero, List.drop_succ_cons, List.drop_zero]
              refine wpHeld_cons (.int .i64 ((j : Int) + 1)) rfl (fun w h => heldRun_value (by kernel_rfl) h) ?_
              simp only [Act.put, List.setIfInBounds_toArray, List.set_cons_zero, List.set_cons_succ]
              refine wpHeld_cons (.int .i64 (j : Int)) rfl (fun w h => heldRun_value (run_sub1 _ _ w _ j rfl rfl HJ.out) h) ?_
              simp only [Act.put, List.setIfInBounds_toArray, List.set_cons_zero, List.set_cons_succ]
              refine wpHeld_cons (.pointer (some ⟨bn, 2, none⟩)) rfl (fun w h => heldRun_value (by kernel_rfl) h) ?_
              simp only [Act.put, List.setIfInBounds_toArray, List.set_cons_zero, List.set_cons_succ]
              refine wpHeld_cons (.pointer (some ⟨bn, 2 + j, none⟩)) rfl (fun w h => heldRun_value (run_idx _ _ w 25 (by simp) _ _ bn 2 j rfl rfl rfl HJ.out) h) ?_
              simp only [Act.put, List.setIfInBounds_toArray, List.set_cons_zero, List.set_cons_succ]
              refine wpHeld_cons (.bool false) rfl (fun w h => heldRun_value (run_load_one _ _ w 4 _ _ rfl bn (2 + j) rfl (cM w h) (by kernel_rfl)) h) ?_
              simp only [Act.put, List.setIfInBounds_toArray, List.set_cons_zero, List.set_cons_succ]
              refine wpHeld_cons (.bool false) rfl (fun w h => heldRun_value (by kernel_rfl) h) ?_
              simp only [Act.put, List.setIfInBounds_toArray, List.set_cons_zero, List.set_cons_succ]
              refine wpHeld_skip rfl ?_
              simp only [Act.put, List.setIfInBounds_toArray, List.set_cons_zero, List.set_cons_succ]
              refine wpHeld_skip rfl ?_
              simp only [Act.put, List.setIfInBounds_toArray, List.set_cons_zero, List.set_cons_succ]
              refine wpHeld_skip rfl ?_
              simp only [Act.put, List.setIfInBounds_toArray, List.set_cons_zero, List.set_cons_succ]
              refine wpHeld_skip rfl ?_
              simp only [Act.put, List.setIfInBounds_toArray, List.set_cons_zero, List.set_cons_succ]
              refine wpHeld_skip rfl ?_
              simp only [Act.put, List.setIfInBounds_toArray, List.set_cons_zero, List.set_cons_succ]
              refine wpHeld_cons (.bool false) rfl (fun w h => heldRun_value (by kernel_rfl) h) ?_
              simp only [Act.put, List.setIfInBounds_toArray, List.set_cons_zero, List.set_cons_succ]
              refine wpHeld_cons (.bool false) rfl (fun w h => heldRun_value (by kernel_rfl) h) ?_
              simp only [Act.put, List.setIfInBounds_toArray, List.set_cons_zero, List.set_cons_succ]
              refine wpHeld_cons (.int .i64 ((j : Int) + 1)) rfl (fun w h => heldRun_value (by kernel_rfl) h) ?_
              simp only [Act.put, List.setIfInBounds_toArray, List.set_cons_zero, List.set_cons_succ]
              refine wpHeld_cons (.int .i64 (j : Int)) rfl (fun w h => heldRun_value (run_sub1 _ _ w _ j rfl rfl HJ.out) h) ?_
              simp only [Act.put, List.setIfInBounds_toArray, List.set_cons_zero, List.set_cons_succ]
              refine wpHeld_cons (.pointer (some ⟨bg, 8, none⟩)) rfl (fun w h => heldRun_value (by kernel_rfl) h) ?_
              simp only [Act.put, List.setIfInBounds_toArray, List.set_cons_zero, List.set_cons_succ]
              refine wpHeld_cons (.pointer (some ⟨bg, 8 + j, none⟩)) rfl (fun w h => heldRun_value (run_idx _ _ w 25 (by simp) _ _ bg 8 j rfl rfl rfl HJ.out) h) ?_
              simp only [Act.put, List.setIfInBounds_toArray, List.set_cons_zero, List.set_cons_succ]
              refine wpHeld_cons (.bool false) rfl (fun w h => heldRun_value (run_load_one _ _ w 4 _ _ rfl bg (8 + j) rfl (dG w h) (by kernel_rfl)) h) ?_
              simp only [Act.put, List.setIfInBounds_toArray, List.set_cons_zero, List.set_cons_succ]
              refine wpHeld_cons (.bool false) rfl (fun w h => heldRun_value (by kernel_rfl) h) ?_
              simp only [Act.put, List.setIfInBounds_toArray, List.set_cons_zero, List.set_cons_succ]
              refine wpHeld_skip rfl ?_
              simp only [Act.put, List.setIfInBounds_toArray, List.set_cons_zero, List.set_cons_succ]
              refine wpHeld_skip rfl ?_
              simp only [Act.put, List.setIfInBounds_toArray, List.set_cons_zero, List.set_cons_succ]
              refine wpHeld_skip rfl ?_
              simp only [Act.put, List.setIfInBounds_toArray, List.set_cons_zero, List.set_cons_succ]
              refine wpHeld_skip rfl ?_
              simp only [Act.put, List.setIfInBounds_toArray, List.set_cons_zero, List.set_cons_succ]
              refine wpHeld_skip rfl ?_
              simp only [Act.put, List.setIfInBounds_toArray, List.set_cons_zero, List.set_cons_succ]
              refine wpHeld_skip rfl ?_
              simp only [Act.put, List.setIfInBounds_toArray, List.set_cons_zero, List.set_cons_succ]
              refine wpHeld_skip rfl ?_
              simp only [Act.put, List.setIfInBounds_toArray, List.set_cons_zero, List.set_cons_succ]
              refine wpHeld_skip rfl ?_
              simp only [Act.put, List.setIfInBounds_toArray, List.set_cons_zero, List.set_cons_succ]
              refine wpHeld_skip rfl ?_
              simp only [Act.put, List.setIfInBounds_toArray, List.set_cons_zero, List.set_cons_succ]
              refine wpHeld_skip rfl ?_
              simp only [Act.put, List.setIfInBounds_toArray, List.set_cons_zero, List.set_cons_succ]
              refine wpHeld_skip rfl ?_
              simp only [Act.put, List.setIfInBounds_toArray, List.set_cons_zero, List.set_cons_succ]
              refine wpHeld_skip rfl ?_
              simp only [Act.put, List.setIfInBounds_toArray, List.set_cons_zero, List.set_cons_succ]
              refine wpHeld_skip rfl ?_
              simp only [Act.put, List.setIfInBounds_toArray, List.set_cons_zero, List.set_cons_succ]
              refine wpHeld_skip rfl ?_
              simp only [Act.put, List.setIfInBounds_toArray, List.set_cons_zero, List.set_cons_succ]
              refine wpHeld_skip rfl ?_
              simp only [Act.put, List.setIfInBounds_toArray, List.set_cons_zero, List.set_cons_succ]
              refine wpHeld_skip rfl ?_
              simp only [Act.put, List.setIfInBounds_toArray, List.set_cons_zero, List.set_cons_succ]
              refine wpHeld_skip rfl ?_
              simp only [Act.put, List.setIfInBounds_toArray, List.set_cons_zero, List.set_cons_succ]
              refine wpHeld_skip rfl ?_
              simp only [Act.put, List.setIfInBounds_toArray, List.set_cons_zero, List.set_cons_succ]
              refine wpHeld_skip rfl ?_
              simp only [Act.put, List.setIfInBounds_toArray, List.set_cons_zero, List.set_cons_succ]
              refine wpHeld_cons (.bool false) rfl (fun w h => heldRun_value (by kernel_rfl) h) ?_
              simp only [Act.put, List.setIfInBounds_toArray, List.set_cons_zero, List.set_cons_succ]
              refine wpHeld_nil ?_
              intro w6 S6
              have HS6 := Lib.hid S6
              clear S6 hS cM cG cC dG dC
              go_wp2_with fail
              go_roundw
              case rel => exact ⟨j + 1, HJ.out, by go_num, HS6⟩
              case measure => simp [intOf]; omega
            · exact absurd (GO' rfl).1 Bool.false_ne_true
            · clear AP' GO'
              refine region_held (SK bg bn B w g g') 39 (by kernel_rfl) (by kernel_rfl) hS ?_
              simp only [List.take_succ_cons, List.take_zero, List.drop_succ_cons, List.drop_zero]
              refine wpHeld_cons (.int .i64 ((j : Int) + 1)) rfl (fun w h => heldRun_value (by kernel_rfl) h) ?_
              simp only [Act.put, List.setIfInBounds_toArray, List.set_cons_zero, List.set_cons_succ]
              refine wpHeld_cons (.int .i64 (j : Int)) rfl (fun w h => heldRun_value (run_sub1 _ _ w _ j rfl rfl HJ.out) h) ?_
              simp only [Act.put, List.setIfInBounds_toArray, List.set_cons_zero, List.set_cons_succ]
              refine wpHeld_cons (.pointer (some ⟨bn, 2, none⟩)) rfl (fun w h => heldRun_value (by kernel_rfl) h) ?_
              simp only [Act.put, List.setIfInBounds_toArray, List.set_cons_zero, List.set_cons_succ]
              refine wpHeld_cons (.pointer (some ⟨bn, 2 + j, none⟩)) rfl (fun w h => heldRun_value (run_idx _ _ w 25 (by simp) _ _ bn 2 j rfl rfl rfl HJ.out) h) ?_
              simp only [Act.put, List.setIfInBounds_toArray, List.set_cons_zero, List.set_cons_succ]
              refine wpHeld_cons (.bool false) rfl (fun w h => heldRun_value (run_load_one _ _ w 4 _ _ rfl bn (2 + j) rfl (cM w h) (by kernel_rfl)) h) ?_
              simp only [Act.put, List.setIfInBounds_toArray, List.set_cons_zero, List.set_cons_succ]
              refine wpHeld_cons (.bool false) rfl (fun w h => heldRun_value (by kernel_rfl) h) ?_
              simp only [Act.put, List.setIfInBounds_toArray, List.set_cons_zero, List.set_cons_succ]
              refine wpHeld_skip rfl ?_
              simp only [Act.put, List.setIfInBounds_toArray, List.set_cons_zero, List.set_cons_succ]
              refine wpHeld_skip rfl ?_
              simp only [Act.put, List.setIfInBounds_toArray, List.set_cons_zero, List.set_cons_succ]
              refine wpHeld_skip rfl ?_
              simp only [Act.put, List.setIfInBounds_toArray, List.set_cons_zero, List.set_cons_succ]
              refine wpHeld_skip rfl ?_
              simp only [Act.put, List.setIfInBounds_toArray, List.set_cons_zero, List.set_cons_succ]
              refine wpHeld_skip rfl ?_
              simp only [Act.put, List.setIfInBounds_toArray, List.set_cons_zero, List.set_cons_succ]
              refine wpHeld_cons (.bool false) rfl (fun w h => heldRun_value (by kernel_rfl) h) ?_
              simp only [Act.put, List.setIfInBounds_toArray, List.set_cons_zero, List.set_cons_succ]
              refine wpHeld_cons (.bool false) rfl (fun w h => heldRun_value (by kernel_rfl) h) ?_
              simp only [Act.put, List.setIfInBounds_toArray, List.set_cons_zero, List.set_cons_succ]
              refine wpHeld_cons (.int .i64 ((j : Int) + 1)) rfl (fun w h => heldRun_value (by kernel_rfl) h) ?_
              simp only [Act.put, List.setIfInBounds_toArray, List.set_cons_zero, List.set_cons_succ]
              refine wpHeld_cons (.int .i64 (j : Int)) rfl (fun w h => heldRun_value (run_sub1 _ _ w _ j rfl rfl HJ.out) h) ?_
              simp only [Act.put, List.setIfInBounds_toArray, List.set_cons_zero, List.set_cons_succ]
              refine wpHeld_cons (.pointer (some ⟨bg, 8, none⟩)) rfl (fun w h => heldRun_value (by kernel_rfl) h) ?_
              simp only [Act.put, List.setIfInBounds_toArray, List.set_cons_zero, List.set_cons_succ]
              refine wpHeld_cons (.pointer (some ⟨bg, 8 + j, none⟩)) rfl (fun w h => heldRun_value (run_idx _ _ w 25 (by simp) _ _ bg 8 j rfl rfl rfl HJ.out) h) ?_
              simp only [Act.put, List.setIfInBounds_toArray, List.set_cons_zero, List.set_cons_succ]
              refine wpHeld_cons (.bool false) rfl (fun w h => heldRun_value (run_load_one _ _ w 4 _ _ rfl bg (8 + j) rfl (dG w h) (by kernel_rfl)) h) ?_
              simp only [Act.put, List.setIfInBounds_toArray, List.set_cons_zero, List.set_cons_succ]
              refine wpHeld_cons (.bool false) rfl (fun w h => heldRun_value (by kernel_rfl) h) ?_
              simp only [Act.put, List.setIfInBounds_toArray, List.set_cons_zero, List.set_cons_succ]
              refine wpHeld_skip rfl ?_
              simp only [Act.put, List.setIfInBounds_toArray, List.set_cons_zero, List.set_cons_succ]
              refine wpHeld_skip rfl ?_
              simp only [Act.put, List.setIfInBounds_toArray, List.set_cons_zero, List.set_cons_succ]
              refine wpHeld_skip rfl ?_
              simp only [Act.put, List.setIfInBounds_toArray, List.set_cons_zero, List.set_cons_succ]
              refine wpHeld_skip rfl ?_
              simp only [Act.put, List.setIfInBounds_toArray, List.set_cons_zero, List.set_cons_succ]
              refine wpHeld_skip rfl ?_
              simp only [Act.put, List.setIfInBounds_toArray, List.set_cons_zero, List.set_cons_succ]
              refine wpHeld_skip rfl ?_
              simp only [Act.put, List.setIfInBounds_toArray, List.set_cons_zero, List.set_cons_succ]
              refine wpHeld_skip rfl ?_
              simp only [Act.put, List.setIfInBounds_toArray, List.set_cons_zero, List.set_cons_succ]
              refine wpHeld_skip rfl ?_
              simp only [Act.put, List.setIfInBounds_toArray, List.set_cons_zero, List.set_cons_succ]
              refine wpHeld_skip rfl ?_
              simp only [Act.put, List.setIfInBounds_toArray, List.set_cons_zero, List.set_cons_succ]
              refine wpHeld_skip rfl ?_
              simp only [Act.put, List.setIfInBounds_toArray, List.set_cons_zero, List.set_cons_succ]
              refine wpHeld_skip rfl ?_
              simp only [Act.put, List.setIfInBounds_toArray, List.set_cons_zero, List.set_cons_succ]
              refine wpHeld_skip rfl ?_
              simp only [Act.put, List.setIfInBounds_toArray, List.set_cons_zero, List.set_cons_succ]
              refine wpHeld_skip rfl ?_
              simp only [Act.put, List.setIfInBounds_toArray, List.set_cons_zero, List.set_cons_succ]
              refine wpHeld_skip rfl ?_
              simp only [Act.put, List.setIfInBounds_toArray, List.set_cons_zero, List.set_cons_succ]
              refine wpHeld_skip rfl ?_
              simp only [Act.put, List.setIfInBounds_toArray, List.set_cons_zero, List.set_cons_succ]
              refine wpHeld_skip rfl ?_
              simp only [Act.put, List.setIfInBounds_toArray, List.set_cons_zero, List.set_cons_succ]
              refine wpHeld_skip rfl ?_
              simp only [Act.put, List.setIfInBounds_toArray, List.set_cons_zero, List.set_cons_succ]
              refine wpHeld_skip rfl ?_
              simp only [Act.put, List.setIfInBounds_toArray, List.set_cons_zero, List.set_cons_succ]
              refine wpHeld_skip rfl ?_
              simp only [Act.put, List.setIfInBounds_toArray, List.set_cons_zero, List.set_cons_succ]
              refine wpHeld_cons (.bool false) rfl (fun w h => heldRun_value (by kernel_rfl) h) ?_
              simp only [Act.put, List.setIfInBounds_toArray, List.set_cons_zero, List.set_cons_succ]
              refine wpHeld_nil ?_
              intro w6 S6
              have HS6 := Lib.hid S6
              clear S6 hS cM cG cC dG dC
              go_wp2_with fail
              go_roundw
              case rel => exact ⟨j + 1, HJ.out, by go_num, HS6⟩
              case measure => simp [intOf]; omega
            · obtain rfl : c = c0 := (GO' rfl).2
              clear AP' GO'
              refine region_held (SK bg bn B w g g') 39 (by kernel_rfl) (by kernel_rfl) hS ?_
              simp only [List.take_succ_cons, List.take_zero, List.drop_succ_cons, List.drop_zero]
              refine wpHeld_cons (.int .i64 ((j : Int) + 1)) rfl (fun w h => heldRun_value (by kernel_rfl) h) ?_
              simp only [Act.put, List.setIfInBounds_toArray, List.set_cons_zero, List.set_cons_succ]
              refine wpHeld_cons (.int .i64 (j : Int)) rfl (fun w h => heldRun_value (run_sub1 _ _ w _ j rfl rfl HJ.out) h) ?_
              simp only [Act.put, List.setIfInBounds_toArray, List.set_cons_zero, List.set_cons_succ]
              refine wpHeld_cons (.pointer (some ⟨bn, 2, none⟩)) rfl (fun w h => heldRun_value (by kernel_rfl) h) ?_
              simp only [Act.put, List.setIfInBounds_toArray, List.set_cons_zero, List.set_cons_succ]
              refine wpHeld_cons (.pointer (some ⟨bn, 2 + j, none⟩)) rfl (fun w h => heldRun_value (run_idx _ _ w 25 (by simp) _ _ bn 2 j rfl rfl rfl HJ.out) h) ?_
              simp only [Act.put, List.setIfInBounds_toArray, List.set_cons_zero, List.set_cons_succ]
              refine wpHeld_cons (.bool false) rfl (fun w h => heldRun_value (run_load_one _ _ w 4 _ _ rfl bn (2 + j) rfl (cM w h) (by kernel_rfl)) h) ?_
              simp only [Act.put, List.setIfInBounds_toArray, List.set_cons_zero, List.set_cons_succ]
              refine wpHeld_cons (.bool false) rfl (fun w h => heldRun_value (by kernel_rfl) h) ?_
              simp only [Act.put, List.setIfInBounds_toArray, List.set_cons_zero, List.set_cons_succ]
              refine wpHeld_skip rfl ?_
              simp only [Act.put, List.setIfInBounds_toArray, List.set_cons_zero, List.set_cons_succ]
              refine wpHeld_skip rfl ?_
              simp only [Act.put, List.setIfInBounds_toArray, List.set_cons_zero, List.set_cons_succ]
              refine wpHeld_skip rfl ?_
              simp only [Act.put, List.setIfInBounds_toArray, List.set_cons_zero, List.set_cons_succ]
              refine wpHeld_skip rfl ?_
              simp only [Act.put, List.setIfInBounds_toArray, List.set_cons_zero, List.set_cons_succ]
              refine wpHeld_skip rfl ?_
              simp only [Act.put, List.setIfInBounds_toArray, List.set_cons_zero, List.set_cons_succ]
              refine wpHeld_cons (.bool false) rfl (fun w h => heldRun_value (by kernel_rfl) h) ?_
              simp only [Act.put, List.setIfInBounds_toArray, List.set_cons_zero, List.set_cons_succ]
              refine wpHeld_cons (.bool false) rfl (fun w h => heldRun_value (by kernel_rfl) h) ?_
              simp only [Act.put, List.setIfInBounds_toArray, List.set_cons_zero, List.set_cons_succ]
              refine wpHeld_cons (.int .i64 ((j : Int) + 1)) rfl (fun w h => heldRun_value (by kernel_rfl) h) ?_
              simp only [Act.put, List.setIfInBounds_toArray, List.set_cons_zero, List.set_cons_succ]
              refine wpHeld_cons (.int .i64 (j : Int)) rfl (fun w h => heldRun_value (run_sub1 _ _ w _ j rfl rfl HJ.out) h) ?_
              simp only [Act.put, List.setIfInBounds_toArray, List.set_cons_zero, List.set_cons_succ]
              refine wpHeld_cons (.pointer (some ⟨bg, 8, none⟩)) rfl (fun w h => heldRun_value (by kernel_rfl) h) ?_
              simp only [Act.put, List.setIfInBounds_toArray, List.set_cons_zero, List.set_cons_succ]
              refine wpHeld_cons (.pointer (some ⟨bg, 8 + j, none⟩)) rfl (fun w h => heldRun_value (run_idx _ _ w 25 (by simp) _ _ bg 8 j rfl rfl rfl HJ.out) h) ?_
              simp only [Act.put, List.setIfInBounds_toArray, List.set_cons_zero, List.set_cons_succ]
              refine wpHeld_cons (.bool true) rfl (fun w h => heldRun_value (run_load_one _ _ w 4 _ _ rfl bg (8 + j) rfl (dG w h) (by kernel_rfl)) h) ?_
              simp only [Act.put, List.setIfInBounds_toArray, List.set_cons_zero, List.set_cons_succ]
              refine wpHeld_cons (.bool true) rfl (fun w h => heldRun_value (by kernel_rfl) h) ?_
              simp only [Act.put, List.setIfInBounds_toArray, List.set_cons_zero, List.set_cons_succ]
              refine wpHeld_cons (.int .i64 ((j : Int) + 1)) rfl (fun w h => heldRun_value (by kernel_rfl) h) ?_
              simp only [Act.put, List.setIfInBounds_toArray, List.set_cons_zero, List.set_cons_succ]
              refine wpHeld_cons (.int .i64 (j : Int)) rfl (fun w h => heldRun_value (run_sub1 _ _ w _ j rfl rfl HJ.out) h) ?_
              simp only [Act.put, List.setIfInBounds_toArray, List.set_cons_zero, List.set_cons_succ]
              refine wpHeld_cons (.pointer (some ⟨bn, 8, none⟩)) rfl (fun w h => heldRun_value (by kernel_rfl) h) ?_
              simp only [Act.put, List.setIfInBounds_toArray, List.set_cons_zero, List.set_cons_succ]
              refine wpHeld_cons (.pointer (some ⟨bn, 8 + j, none⟩)) rfl (fun w h => heldRun_value (run_idx _ _ w 25 (by simp) _ _ bn 8 j rfl rfl rfl HJ.out) h) ?_
              simp only [Act.put, List.setIfInBounds_toArray, List.set_cons_zero, List.set_cons_succ]
              refine wpHeld_cons (.bool true) rfl (fun w h => heldRun_value (run_load_one _ _ w 4 _ _ rfl bn (8 + j) rfl (cG w h) (by kernel_rfl)) h) ?_
              simp only [Act.put, List.setIfInBounds_toArray, List.set_cons_zero, List.set_cons_succ]
              refine wpHeld_cons (.bool false) rfl (fun w h => heldRun_value (by kernel_rfl) h) ?_
              simp only [Act.put, List.setIfInBounds_toArray, List.set_cons_zero, List.set_cons_succ]
              refine wpHeld_cons (.bool false) rfl (fun w h => heldRun_value (by kernel_rfl) h) ?_
              simp only [Act.put, List.setIfInBounds_toArray, List.set_cons_zero, List.set_cons_succ]
              refine wpHeld_cons (.int .i64 ((j : Int) + 1)) rfl (fun w h => heldRun_value (by kernel_rfl) h) ?_
              simp only [Act.put, List.setIfInBounds_toArray, List.set_cons_zero, List.set_cons_succ]
              refine wpHeld_cons (.int .i64 (j : Int)) rfl (fun w h => heldRun_value (run_sub1 _ _ w _ j rfl rfl HJ.out) h) ?_
              simp only [Act.put, List.setIfInBounds_toArray, List.set_cons_zero, List.set_cons_succ]
              refine wpHeld_cons (.pointer (some ⟨bn, 14, none⟩)) rfl (fun w h => heldRun_value (by kernel_rfl) h) ?_
              simp only [Act.put, List.setIfInBounds_toArray, List.set_cons_zero, List.set_cons_succ]
              refine wpHeld_cons (.pointer (some ⟨bn, 14 + j, none⟩)) rfl (fun w h => heldRun_value (run_idx _ _ w 26 (by simp) _ _ bn 14 j rfl rfl rfl HJ.out) h) ?_
              simp only [Act.put, List.setIfInBounds_toArray, List.set_cons_zero, List.set_cons_succ]
              refine wpHeld_cons (.int .u64 c) rfl (fun w h => heldRun_value (run_load_one _ _ w 23 _ _ rfl bn (14 + j) rfl (cC w h) (by kernel_rfl)) h) ?_
              simp only [Act.put, List.setIfInBounds_toArray, List.set_cons_zero, List.set_cons_succ]
              refine wpHeld_cons (.int .i64 ((j : Int) + 1)) rfl (fun w h => heldRun_value (by kernel_rfl) h) ?_
              simp only [Act.put, List.setIfInBounds_toArray, List.set_cons_zero, List.set_cons_succ]
              refine wpHeld_cons (.int .i64 (j : Int)) rfl (fun w h => heldRun_value (run_sub1 _ _ w _ j rfl rfl HJ.out) h) ?_
              simp only [Act.put, List.setIfInBounds_toArray, List.set_cons_zero, List.set_cons_succ]
              refine wpHeld_cons (.pointer (some ⟨bg, 14, none⟩)) rfl (fun w h => heldRun_value (by kernel_rfl) h) ?_
              simp only [Act.put, List.setIfInBounds_toArray, List.set_cons_zero, List.set_cons_succ]
              refine wpHeld_cons (.pointer (some ⟨bg, 14 + j, none⟩)) rfl (fun w h => heldRun_value (run_idx _ _ w 26 (by simp) _ _ bg 14 j rfl rfl rfl HJ.out) h) ?_
              simp only [Act.put, List.setIfInBounds_toArray, List.set_cons_zero, List.set_cons_succ]
              refine wpHeld_cons (.int .u64 c) rfl (fun w h => heldRun_value (run_load_one _ _ w 23 _ _ rfl bg (14 + j) rfl (dC w h) (by kernel_rfl)) h) ?_
              simp only [Act.put, List.setIfInBounds_toArray, List.set_cons_zero, List.set_cons_succ]
              refine wpHeld_cons (.bool false) rfl (fun w h => heldRun_value (by go_simp) h) ?_
              simp only [Act.put, List.setIfInBounds_toArray, List.set_cons_zero, List.set_cons_succ]
              refine wpHeld_cons (.bool false) rfl (fun w h => heldRun_value (by kernel_rfl) h) ?_
              simp only [Act.put, List.setIfInBounds_toArray, List.set_cons_zero, List.set_cons_succ]
              refine wpHeld_cons (.bool false) rfl (fun w h => heldRun_value (by kernel_rfl) h) ?_
              simp only [Act.put, List.setIfInBounds_toArray, List.set_cons_zero, List.set_cons_succ]
              refine wpHeld_nil ?_
              intro w6 S6
              have HS6 := Lib.hid S6
              clear S6 hS cM cG cC dG dC
              go_wp2_with fail
              go_roundw
              case rel => exact ⟨j + 1, HJ.out, by go_num, HS6⟩
              case measure => simp [intOf]; omega
            · clear AP' GO'
              refine region_held (SK bg bn B w g g') 39 (by kernel_rfl) (by kernel_rfl) hS ?_
              simp only [List.take_succ_cons, List.take_zero, List.drop_succ_cons, List.drop_zero]
              refine wpHeld_cons (.int .i64 ((j : Int) + 1)) rfl (fun w h => heldRun_value (by kernel_rfl) h) ?_
              simp only [Act.put, List.setIfInBounds_toArray, List.set_cons_zero, List.set_cons_succ]
              refine wpHeld_cons (.int .i64 (j : Int)) rfl (fun w h => heldRun_value (run_sub1 _ _ w _ j rfl rfl HJ.out) h) ?_
              simp only [Act.put, List.setIfInBounds_toArray, List.set_cons_zero, List.set_cons_succ]
              refine wpHeld_cons (.pointer (some ⟨bn, 2, none⟩)) rfl (fun w h => heldRun_value (by kernel_rfl) h) ?_
              simp only [Act.put, List.setIfInBounds_toArray, List.set_cons_zero, List.set_cons_succ]
              refine wpHeld_cons (.pointer (some ⟨bn, 2 + j, none⟩)) rfl (fun w h => heldRun_value (run_idx _ _ w 25 (by simp) _ _ bn 2 j rfl rfl rfl HJ.out) h) ?_
              simp only [Act.put, List.setIfInBounds_toArray, List.set_cons_zero, List.set_cons_succ]
              refine wpHeld_cons (.bool true) rfl (fun w h => heldRun_value (run_load_one _ _ w 4 _ _ rfl bn (2 + j) rfl (cM w h) (by kernel_rfl)) h) ?_
              simp only [Act.put, List.setIfInBounds_toArray, List.set_cons_zero, List.set_cons_succ]
              refine wpHeld_cons (.bool true) rfl (fun w h => heldRun_value (by kernel_rfl) h) ?_
              simp only [Act.put, List.setIfInBounds_toArray, List.set_cons_zero, List.set_cons_succ]
              refine wpHeld_cons (.int .i64 ((j : Int) + 1)) rfl (fun w h => heldRun_value (by kernel_rfl) h) ?_
              simp only [Act.put, List.setIfInBounds_toArray, List.set_cons_zero, List.set_cons_succ]
              refine wpHeld_cons (.int .i64 (j : Int)) rfl (fun w h => heldRun_value (run_sub1 _ _ w _ j rfl rfl HJ.out) h) ?_
              simp only [Act.put, List.setIfInBounds_toArray, List.set_cons_zero, List.set_cons_succ]
              refine wpHeld_cons (.pointer (some ⟨bn, 8, none⟩)) rfl (fun w h => heldRun_value (by kernel_rfl) h) ?_
              simp only [Act.put, List.setIfInBounds_toArray, List.set_cons_zero, List.set_cons_succ]
              refine wpHeld_cons (.pointer (some ⟨bn, 8 + j, none⟩)) rfl (fun w h => heldRun_value (run_idx _ _ w 25 (by simp) _ _ bn 8 j rfl rfl rfl HJ.out) h) ?_
              simp only [Act.put, List.setIfInBounds_toArray, List.set_cons_zero, List.set_cons_succ]
              refine wpHeld_cons (.bool false) rfl (fun w h => heldRun_value (run_load_one _ _ w 4 _ _ rfl bn (8 + j) rfl (cG w h) (by kernel_rfl)) h) ?_
              simp only [Act.put, List.setIfInBounds_toArray, List.set_cons_zero, List.set_cons_succ]
              refine wpHeld_cons (.bool false) rfl (fun w h => heldRun_value (by kernel_rfl) h) ?_
              simp only [Act.put, List.setIfInBounds_toArray, List.set_cons_zero, List.set_cons_succ]
              refine wpHeld_cons (.bool false) rfl (fun w h => heldRun_value (by kernel_rfl) h) ?_
              simp only [Act.put, List.setIfInBounds_toArray, List.set_cons_zero, List.set_cons_succ]
              refine wpHeld_cons (.int .i64 ((j : Int) + 1)) rfl (fun w h => heldRun_value (by kernel_rfl) h) ?_
              simp only [Act.put, List.setIfInBounds_toArray, List.set_cons_zero, List.set_cons_succ]
              refine wpHeld_cons (.int .i64 (j : Int)) rfl (fun w h => heldRun_value (run_sub1 _ _ w _ j rfl rfl HJ.out) h) ?_
              simp only [Act.put, List.setIfInBounds_toArray, List.set_cons_zero, List.set_cons_succ]
              refine wpHeld_cons (.pointer (some ⟨bg, 8, none⟩)) rfl (fun w h => heldRun_value (by kernel_rfl) h) ?_
              simp only [Act.put, List.setIfInBounds_toArray, List.set_cons_zero, List.set_cons_succ]
              refine wpHeld_cons (.pointer (some ⟨bg, 8 + j, none⟩)) rfl (fun w h => heldRun_value (run_idx _ _ w 25 (by simp) _ _ bg 8 j rfl rfl rfl HJ.out) h) ?_
              simp only [Act.put, List.setIfInBounds_toArray, List.set_cons_zero, List.set_cons_succ]
              refine wpHeld_cons (.bool false) rfl (fun w h => heldRun_value (run_load_one _ _ w 4 _ _ rfl bg (8 + j) rfl (dG w h) (by kernel_rfl)) h) ?_
              simp only [Act.put, List.setIfInBounds_toArray, List.set_cons_zero, List.set_cons_succ]
              refine wpHeld_cons (.bool false) rfl (fun w h => heldRun_value (by kernel_rfl) h) ?_
              simp only [Act.put, List.setIfInBounds_toArray, List.set_cons_zero, List.set_cons_succ]
              refine wpHeld_skip rfl ?_
              simp only [Act.put, List.setIfInBounds_toArray, List.set_cons_zero, List.set_cons_succ]
              refine wpHeld_skip rfl ?_
              simp only [Act.put, List.setIfInBounds_toArray, List.set_cons_zero, List.set_cons_succ]
              refine wpHeld_skip rfl ?_
              simp only [Act.put, List.setIfInBounds_toArray, List.set_cons_zero, List.set_cons_succ]
              refine wpHeld_skip rfl ?_
              simp only [Act.put, List.setIfInBounds_toArray, List.set_cons_zero, List.set_cons_succ]
              refine wpHeld_skip rfl ?_
              simp only [Act.put, List.setIfInBounds_toArray, List.set_cons_zero, List.set_cons_succ]
              refine wpHeld_skip rfl ?_
              simp only [Act.put, List.setIfInBounds_toArray, List.set_cons_zero, List.set_cons_succ]
              refine wpHeld_skip rfl ?_
              simp only [Act.put, List.setIfInBounds_toArray, List.set_cons_zero, List.set_cons_succ]
              refine wpHeld_skip rfl ?_
              simp only [Act.put, List.setIfInBounds_toArray, List.set_cons_zero, List.set_cons_succ]
              refine wpHeld_skip rfl ?_
              simp only [Act.put, List.setIfInBounds_toArray, List.set_cons_zero, List.set_cons_succ]
              refine wpHeld_skip rfl ?_
              simp only [Act.put, List.setIfInBounds_toArray, List.set_cons_zero, List.set_cons_succ]
              refine wpHeld_skip rfl ?_
              simp only [Act.put, List.setIfInBounds_toArray, List.set_cons_zero, List.set_cons_succ]
              refine wpHeld_skip rfl ?_
              simp only [Act.put, List.setIfInBounds_toArray, List.set_cons_zero, List.set_cons_succ]
              refine wpHeld_skip rfl ?_
              simp only [Act.put, List.setIfInBounds_toArray, List.set_cons_zero, List.set_cons_succ]
              refine wpHeld_skip rfl ?_
              simp only [Act.put, List.setIfInBounds_toArray, List.set_cons_zero, List.set_cons_succ]
              refine wpHeld_skip rfl ?_
              simp only [Act.put, List.setIfInBounds_toArray, List.set_cons_zero, List.set_cons_succ]
              refine wpHeld_skip rfl ?_
              simp only [Act.put, List.setIfInBounds_toArray, List.set_cons_zero, List.set_cons_succ]
              refine wpHeld_skip rfl ?_
              simp only [Act.put, List.setIfInBounds_toArray, List.set_cons_zero, List.set_cons_succ]
              refine wpHeld_skip rfl ?_
              simp only [Act.put, List.setIfInBounds_toArray, List.set_cons_zero, List.set_cons_succ]
              refine wpHeld_skip rfl ?_
              simp only [Act.put, List.setIfInBounds_toArray, List.set_cons_zero, List.set_cons_succ]
              refine wpHeld_cons (.bool false) rfl (fun w h => heldRun_value (by kernel_rfl) h) ?_
              simp only [Act.put, List.setIfInBounds_toArray, List.set_cons_zero, List.set_cons_succ]
              refine wpHeld_nil ?_
              intro w6 S6
              have HS6 := Lib.hid S6
              clear S6 hS cM cG cC dG dC
              go_wp2_with fail
              go_roundw
              case rel => exact ⟨j + 1, HJ.out, by go_num, HS6⟩
              case measure => simp [intOf]; omega
            · exact absurd (GO' rfl).1 Bool.false_ne_true
            · exact absurd ⟨rfl, rfl⟩ AP'
            · exact absurd ⟨rfl, rfl⟩ AP'
          · have hj6' : j = 6 := by omega
            subst hj6'
            have R2 := RJ.out
            have HN : Hid (IsG wr bn g') := Lib.hid R2.2.2
            have HG : Hid (IsG wr bg g) := Lib.hid R2.2.1
            have BW : Hid (Below B w wr) := Lib.hid R2.1
            have HI' := Lib.hid ST.out.inv
            have SV := Lib.hid ST.out.s
            clear R2 RJ hj hj6 ST HI
            go_wp2_with (first | (refine wpL_load 28 _ rfl (by rfl) bn 0 rfl g'.cells _ (range_blk HN.out) Try.underlying28 rfl (sizeG _) ?_) | (refine wpList_store_row rfl 28 _ _ rfl bg _ rfl rfl 28 _ HG.out (sizeG _) rfl (one_cells _) ?_))
            try simp only [Act.put, List.setIfInBounds_toArray, List.set_cons_zero, List.set_cons_succ]
            try go_wp2_with fail
            go_roundw
            case rel => exact ⟨k + 1, by omega, by go_num, Lib.hid ⟨g', HI'.out, by have := SV.out; have := S0.out; omega, by have := SV.out; have := S1.out; omega, setRow_heap _ _ _ _ _ _ HG.out, below_setRow BW.out HS.out _⟩⟩
            case measure => simp [intOf]; omega
      · have hm' : (mayI g wri op mb != 0) = true := by simpa using hm
        clear hm
        go_wp2
        go_roundw
        case rel => exact ⟨k + 1, by omega, by go_num, Lib.hid ⟨g, HI.out, S0.out, by have := S1.out; omega, HG.out, BW.out⟩⟩
        case measure => simp [intOf]; omega
    · obtain rfl : k = len := by have := HLK.out; omega
      have hB2 := RI.out
      obtain ⟨_, _, _, _, _, hbw⟩ := hB2
      have BW := Lib.hid hbw
      clear hbw RI hk hlt
      go_wp2
      go_ret
      exact ⟨rfl, by rw [EB.out]; exact BW.out⟩
end Go.Proofs.Ytdhpgadhdgpbdaa
