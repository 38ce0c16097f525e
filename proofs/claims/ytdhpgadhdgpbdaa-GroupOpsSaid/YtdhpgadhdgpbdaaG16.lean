import Derived.Test.YtdhpgadhdgpbdaaG15
import Derived.Test.YtdhpgadhdgpbdaaG10
namespace Go.Proofs.Ytdhpgadhdgpbdaa
open Go.RowKit

theorem neq28 (g : Grp) (w : World) (a : Act) (o : Oper) (x y : Operand) (hm : o.op = .binOp .neq 28 x y 28) (hx : a.eval x = .agg g.cells.toArray) (hy : a.eval y = .agg g.cells.toArray) : (execOp a.eval o).run Try.prog w = .ok (.value (.bool false)) w := by
  have gg : (Try.prog.eqGuardType Try.prog.depth 28) = false := by kernel_rfl
  unfold execOp
  simp only [hm, hx, hy, Sem.run_bind, run_eqGuard_agg _ _ _ _ _ _ _ gg, Result.andThen_ok, run_neq_struct, eq28, Bool.not_true, Sem.run_pure]
/-- what holds in the first loop's drawn region. -/
def SN (bg bn bs B : Nat) (w : World) (g g' : Grp) (wri op mb cut : Int) (X : World) : Prop := Below B w X ∧ IsG X bg g ∧ IsG X bn g' ∧ Blk X bs 30 #[.int .i64 wri, .int .i64 op, .int .i64 mb, .int .u64 cut]
theorem SN.step {bg bn bs B : Nat} {w X Y : World} {g g' : Grp} {wri op mb cut : Int} (h : SN bg bn bs B w g g' wri op mb cut X) (hB : B ≤ w.heap.size) (hb : Below X.heap.size X Y) : SN bg bn bs B w g g' wri op mb cut Y :=
  ⟨h.1.trans (hb.mono (Nat.le_trans hB h.1.size)), Blk.keep h.2.1 hb h.2.1.lt, Blk.keep h.2.2.1 hb h.2.2.1.lt, Blk.keep h.2.2.2 hb h.2.2.2.lt⟩
def SG (bg B : Nat) (w : World) (g : Grp) (X : World) : Prop := Below B w X ∧ IsG X bg g
theorem SG.step {bg B : Nat} {w X Y : World} {g : Grp} (h : SG bg B w g X) (hB : B ≤ w.heap.size) (hb : Below X.heap.size X Y) : SG bg B w g Y :=
  ⟨h.1.trans (hb.mono (Nat.le_trans hB h.1.size)), Blk.keep h.2 hb h.2.lt⟩
set_option maxRecDepth 100000 in
set_option maxHeartbeats 8000000 in
theorem walkOps (b off len cap : Nat) (q : Int) (w : World) (hl0 : 0 < len) (hst : ∀ k, k < len → ∃ wr op mb cut : Int, w.cell? ⟨b, off + k * 4, none⟩ = some (.int .i64 wr) ∧ w.cell? ⟨b, off + k * 4 + 1, none⟩ = some (.int .i64 op) ∧ w.cell? ⟨b, off + k * 4 + 2, none⟩ = some (.int .i64 mb) ∧ w.cell? ⟨b, off + k * 4 + 3, none⟩ = some (.int .u64 cut)) (hlen : len ≤ 60) :
    Calls Try.prog 4 #[.slice (some ⟨b, off, none⟩) len cap, .int .u64 q] w fun e w' => e = .returned (.bool true) ∧ Below w.heap.size w w' := by
  have HST := Lib.hid hst
  have HL := Lib.hid hlen
  have BLT : Hid (b < w.heap.size) := Lib.hid (by
    obtain ⟨_, _, _, _, h, _⟩ := hst 0 hl0
    exact World.block_lt_of_cell? w _ h)
  have hl : ((60 : Int) < (len : Int)) = False := by simp; omega
  clear hst hlen hl0
  go_enter Try.func4, Try.ntmps4
  go_wp2_with (go_at_call 6; refine (awake_any _).mono ?_; rintro e w1 ⟨rfl, hb⟩)
  obtain ⟨W, hW⟩ : ∃ V, V = w1.alloc (.cells #[.int .i64 0, .int .i64 0, .bool false, .bool false, .bool false, .bool false, .bool false, .bool false, .bool false, .bool false, .bool false, .bool false, .bool false, .bool false, .int .u64 0, .int .u64 0, .int .u64 0, .int .u64 0, .int .u64 0, .int .u64 0, .int .i64 0] 28) := ⟨_, rfl⟩
  rw [← hW]
  have hg0 : IsG W w1.heap.size zg := by rw [hW]; exact Blk.new _ _ _
  have hR : Rd w1.heap.size w.heap.size w 0 W := ⟨zg, inv_zero, by decide, by decide, hg0, by rw [hW]; exact hb.alloc hb.size _⟩
  have HR := Lib.hid hR
  have HS : Hid (w.heap.size ≤ w1.heap.size) := Lib.hid hb.size
  clear hR hg0 hW hb hl
  generalize w1.heap.size = bg at *
  generalize hB : w.heap.size = B at *
  have EB := Lib.hid hB
  have LE : Hid (B ≤ w.heap.size) := Lib.hid (by omega)
  clear hB
  go_loopw [6] (fun s6 wr => ∃ k : Nat, k ≤ len ∧ s6 = .int .i64 k ∧ Hid (Rd bg B w k wr)) (fun s6 _ => len - (intOf s6).toNat)
  case atStart => exact ⟨0, Nat.zero_le _, rfl, HR⟩
  case round =>
    clear HR
    obtain ⟨k, hk, rfl, RI⟩ := hrel
    have HLK := Lib.hid hk
    by_cases hlt : k < len
    · obtain ⟨g, hI, s0, s1, hg, hbw⟩ := RI.out
      obtain ⟨wri, op, mb, cut, d0, d1, d2, d3⟩ := HST.out k hlt
      have hbl : b < B := by have := BLT.out; omega
      have c0 : wr.cell? ⟨b, off + k * 4, none⟩ = some (.int .i64 wri) := (hbw.cell (p := ⟨b, off + k * 4, none⟩) hbl).trans d0
      have c1 : wr.cell? ⟨b, off + k * 4 + 1, none⟩ = some (.int .i64 op) := (hbw.cell (p := ⟨b, off + k * 4 + 1, none⟩) hbl).trans d1
      have c2 : wr.cell? ⟨b, off + k * 4 + 2, none⟩ = some (.int .i64 mb) := (hbw.cell (p := ⟨b, off + k * 4 + 2, none⟩) hbl).trans d2
      have c3 : wr.cell? ⟨b, off + k * 4 + 3, none⟩ = some (.int .u64 cut) := (hbw.cell (p := ⟨b, off + k * 4 + 3, none⟩) hbl).trans d3
      have HI := Lib.hid hI
      have S0 := Lib.hid s0
      have S1 := Lib.hid s1
      have HG := Lib.hid hg
      have hgl : Hid (bg < wr.heap.size) := Lib.hid hg.lt
      have BW := Lib.hid hbw
      clear hI s0 s1 hg hbw hbl d0 d1 d2 d3 RI hk
      have i0 : (0 : Int) ≤ (k : Int) := by omega
      have i1 : (k : Int) < (len : Int) := by omega
      have i2 : (len : Int) ≤ 60 := by have := HL.out; omega
      go_upto_region 8 with (fail)
      obtain ⟨W8, hW⟩ : ∃ V, V = wr.alloc (.cells #[.int .i64 wri, .int .i64 op, .int .i64 mb, .int .u64 cut] 30) := ⟨_, rfl⟩
      rw [← hW]
      have hq : Blk W8 wr.heap.size 30 #[.int .i64 wri, .int .i64 op, .int .i64 mb, .int .u64 cut] := by rw [hW]; exact Blk.new _ _ _
      replace HG : Hid (IsG W8 bg g) := Lib.hid (by rw [hW]; exact Blk.alloc HG.out _)
      replace BW : Hid (Below B w W8) := Lib.hid (by rw [hW]; exact BW.out.alloc (by have := BW.out.size; rw [← EB.out]; exact this) _)
      clear hW c0 c1 c2 c3 hgl
      generalize wr.heap.size = bs at *
      have e0 : W8.cell? ⟨bs, 0, none⟩ = some (.int .i64 wri) := hq.cell 0
      have e1 : W8.cell? ⟨bs, 1, none⟩ = some (.int .i64 op) := hq.cell 1
      have e2 : W8.cell? ⟨bs, 2, none⟩ = some (.int .i64 mb) := hq.cell 2
      have e3 : W8.cell? ⟨bs, 3, none⟩ = some (.int .u64 cut) := hq.cell 3
      have HQ := Lib.hid hq
      clear hq
      go_wp2_with (refine wpL_load 28 _ rfl (by rfl) bg 0 rfl g.cells _ (range_blk HG.out) Try.underlying28 rfl (sizeG _) ?_)
      have KR : Hid (∀ w, Calls Try.prog 10 #[.agg g.cells.toArray, .int .i64 wri, .int .i64 op, .int .i64 mb] w fun e w' => e = .returned (.int .i64 (mayI g wri op mb)) ∧ Below w.heap.size w w') := Lib.hid (fun w => rmay_any w g wri op mb)
      refine (may_any _ g wri op mb).mono ?_
      rintro e w2 ⟨rfl, hb2⟩
      replace HG : Hid (IsG w2 bg g) := Lib.hid (Blk.keep HG.out hb2 HG.out.lt)
      replace BW : Hid (Below B w w2) := Lib.hid (BW.out.trans (hb2.mono (by have := BW.out.size; rw [← EB.out]; exact this)))
      replace HQ : Hid (Blk w2 bs 30 #[.int .i64 wri, .int .i64 op, .int .i64 mb, .int .u64 cut]) := Lib.hid (Blk.keep HQ.out hb2 HQ.out.lt)
      clear hb2 e0 e1 e2 e3
      have HM := Lib.hid (fun hm : mayI g wri op mb = 0 => stepped g wri op mb cut HI.out hm)
      have HK60 : Hid (k < 60) := Lib.hid (by have := HL.out; omega)
      have KB : Hid (∀ w, Calls Try.prog 11 #[.agg g.cells.toArray, .int .i64 wri, .int .i64 op, .int .i64 mb, .int .u64 cut] w fun e w' => e = .returned (.agg (behindG g wri op mb cut).cells.toArray) ∧ Below w.heap.size w w') := Lib.hid (fun w => rbehind_any w g wri op mb cut (by have := HI.out.e0; omega) (by have := HI.out.e1; omega) S0.out (by have := S1.out; have := HK60.out; omega))
      have KH : Hid (∀ w, Calls Try.prog 8 #[.agg g.cells.toArray, .int .i64 wri, .int .i64 op, .int .i64 mb, .int .u64 cut] w fun e w' => e = .returned (.agg (behindG g wri op mb cut).cells.toArray) ∧ Below w.heap.size w w') := Lib.hid (fun w => behind_any w g wri op mb cut (by have := HI.out.e0; omega) (by have := HI.out.e1; omega) S0.out (by have := S1.out; have := HK60.out; omega))
      generalize mayI g wri op mb = E at HM KR ⊢
      generalize behindG g wri op mb cut = g' at HM KB KH ⊢
      have e0 : w2.cell? ⟨bs, 0, none⟩ = some (.int .i64 wri) := HQ.out.cell 0
      have e1 : w2.cell? ⟨bs, 1, none⟩ = some (.int .i64 op) := HQ.out.cell 1
      have e2 : w2.cell? ⟨bs, 2, none⟩ = some (.int .i64 mb) := HQ.out.cell 2
      have e3 : w2.cell? ⟨bs, 3, none⟩ = some (.int .u64 cut) := HQ.out.cell 3
      go_wp2_with (refine wpL_load 28 _ rfl (by rfl) bg 0 rfl g.cells _ (range_blk HG.out) Try.underlying28 rfl (sizeG _) ?_)
      refine (KH.out _).mono ?_
      rintro e w3 ⟨rfl, hb3⟩
      replace HG : Hid (IsG w3 bg g) := Lib.hid (Blk.keep HG.out hb3 HG.out.lt)
      replace BW : Hid (Below B w w3) := Lib.hid (BW.out.trans (hb3.mono (by have := BW.out.size; rw [← EB.out]; exact this)))
      replace HQ : Hid (Blk w3 bs 30 #[.int .i64 wri, .int .i64 op, .int .i64 mb, .int .u64 cut]) := Lib.hid (Blk.keep HQ.out hb3 HQ.out.lt)
      clear hb3 e0 e1 e2 e3 KH
      have bn0 : Blk (w3.alloc (.cells #[.int .i64 0, .int .i64 0, .bool false, .bool false, .bool false, .bool false, .bool false, .bool false, .bool false, .bool false, .bool false, .bool false, .bool false, .bool false, .int .u64 0, .int .u64 0, .int .u64 0, .int .u64 0, .int .u64 0, .int .u64 0, .int .i64 0] 28)) w3.heap.size 28 #[.int .i64 0, .int .i64 0, .bool false, .bool false, .bool false, .bool false, .bool false, .bool false, .bool false, .bool false, .bool false, .bool false, .bool false, .bool false, .int .u64 0, .int .u64 0, .int .u64 0, .int .u64 0, .int .u64 0, .int .u64 0, .int .i64 0] := Blk.new _ _ _
      have BN := Lib.hid bn0
      clear bn0
      go_upto_region 10 with (refine wpList_store_row rfl 28 _ _ rfl w3.heap.size _ rfl rfl 28 _ BN.out (sizeG _) rfl (one_cells _) ?_)
      simp only [Act.put, List.setIfInBounds_toArray, List.set_cons_zero, List.set_cons_succ]
      obtain ⟨w4, hW⟩ : ∃ V, V = (w3.alloc (.cells #[.int .i64 0, .int .i64 0, .bool false, .bool false, .bool false, .bool false, .bool false, .bool false, .bool false, .bool false, .bool false, .bool false, .bool false, .bool false, .int .u64 0, .int .u64 0, .int .u64 0, .int .u64 0, .int .u64 0, .int .u64 0, .int .i64 0] 28)).setRow w3.heap.size g'.cells.toArray := ⟨_, rfl⟩
      rw [← hW]
      have hbl : B ≤ w3.heap.size := by have := BW.out.size; have := LE.out; omega
      have HN : Hid (IsG w4 w3.heap.size g') := Lib.hid (by rw [hW]; exact setRow_heap _ _ _ _ _ _ BN.out)
      have NE : Hid (bg ≠ w3.heap.size) := Lib.hid (Nat.ne_of_lt HG.out.lt)
      have NQ : Hid (bs ≠ w3.heap.size) := Lib.hid (Nat.ne_of_lt HQ.out.lt)
      replace HG : Hid (IsG w4 bg g) := Lib.hid (by rw [hW]; exact (setRow_other _ _ _ _ NE.out).trans (Blk.alloc HG.out _))
      replace HQ : Hid (Blk w4 bs 30 #[.int .i64 wri, .int .i64 op, .int .i64 mb, .int .u64 cut]) := Lib.hid (by rw [hW]; exact (setRow_other _ _ _ _ NQ.out).trans (Blk.alloc HQ.out _))
      replace BW : Hid (Below B w w4) := Lib.hid (by rw [hW]; exact below_setRow (BW.out.alloc hbl _) hbl _)
      clear hW BN hbl NQ NE
      generalize w3.heap.size = bn at *
      have hS : SN bg bn bs B w g g' wri op mb cut w4.drew := ⟨BW.out.drew, HG.out, HN.out, HQ.out⟩
      clear BW HG HN HQ
      refine region_held (SN bg bn bs B w g g' wri op mb cut) 23 (by kernel_rfl) (by kernel_rfl) hS ?_
      simp only [List.take_succ_cons, List.take_zero, List.drop_succ_cons, List.drop_zero]
      refine wpHeld_cons (.int .i64 E) rfl (fun w h => heldRun_value (by kernel_rfl) h) ?_
      simp only [Act.put, List.setIfInBounds_toArray, List.set_cons_zero, List.set_cons_succ]
      refine wpHeld_load 28 _ rfl rfl bg 0 rfl g.cells _ (fun w h => range_blk h.2.1) Try.underlying28 rfl (sizeG _) ?_
      simp only [Act.put, List.setIfInBounds_toArray, List.set_cons_zero, List.set_cons_succ]
      refine wpHeld_cons (.pointer (some ⟨bs, 0, none⟩)) rfl (fun w h => heldRun_value (by kernel_rfl) h) ?_
      simp only [Act.put, List.setIfInBounds_toArray, List.set_cons_zero, List.set_cons_succ]
      refine wpHeld_cons (.int .i64 wri) rfl (fun w h => heldRun_value (run_load_one _ _ w 3 _ _ rfl bs 0 rfl (h.2.2.2.cell 0) (by kernel_rfl)) h) ?_
      simp only [Act.put, List.setIfInBounds_toArray, List.set_cons_zero, List.set_cons_succ]
      refine wpHeld_cons (.pointer (some ⟨bs, 1, none⟩)) rfl (fun w h => heldRun_value (by kernel_rfl) h) ?_
      simp only [Act.put, List.setIfInBounds_toArray, List.set_cons_zero, List.set_cons_succ]
      refine wpHeld_cons (.int .i64 op) rfl (fun w h => heldRun_value (run_load_one _ _ w 3 _ _ rfl bs 1 rfl (h.2.2.2.cell 1) (by kernel_rfl)) h) ?_
      simp only [Act.put, List.setIfInBounds_toArray, List.set_cons_zero, List.set_cons_succ]
      refine wpHeld_cons (.pointer (some ⟨bs, 2, none⟩)) rfl (fun w h => heldRun_value (by kernel_rfl) h) ?_
      simp only [Act.put, List.setIfInBounds_toArray, List.set_cons_zero, List.set_cons_succ]
      refine wpHeld_cons (.int .i64 mb) rfl (fun w h => heldRun_value (run_load_one _ _ w 3 _ _ rfl bs 2 rfl (h.2.2.2.cell 2) (by kernel_rfl)) h) ?_
      simp only [Act.put, List.setIfInBounds_toArray, List.set_cons_zero, List.set_cons_succ]
      refine wpHeld_call _ 10 #[.agg g.cells.toArray, .int .i64 wri, .int .i64 op, .int .i64 mb] rfl (fun w => by kernel_rfl) (fun w h => (KR.out w).mono (fun e w'' ⟨he, hb⟩ => ⟨he, h.step LE.out hb⟩)) ?_
      simp only [Act.put, List.setIfInBounds_toArray, List.set_cons_zero, List.set_cons_succ]
      refine wpHeld_cons (.bool false) rfl (fun w h => heldRun_value (by go_simp) h) ?_
      simp only [Act.put, List.setIfInBounds_toArray, List.set_cons_zero, List.set_cons_succ]
      refine wpHeld_cons (.bool false) rfl (fun w h => heldRun_value (by kernel_rfl) h) ?_
      simp only [Act.put, List.setIfInBounds_toArray, List.set_cons_zero, List.set_cons_succ]
      refine wpHeld_load 28 _ rfl rfl bn 0 rfl g'.cells _ (fun w h => range_blk h.2.2.1) Try.underlying28 rfl (sizeG _) ?_
      simp only [Act.put, List.setIfInBounds_toArray, List.set_cons_zero, List.set_cons_succ]
      refine wpHeld_load 28 _ rfl rfl bg 0 rfl g.cells _ (fun w h => range_blk h.2.1) Try.underlying28 rfl (sizeG _) ?_
      simp only [Act.put, List.setIfInBounds_toArray, List.set_cons_zero, List.set_cons_succ]
      refine wpHeld_cons (.pointer (some ⟨bs, 0, none⟩)) rfl (fun w h => heldRun_value (by kernel_rfl) h) ?_
      simp only [Act.put, List.setIfInBounds_toArray, List.set_cons_zero, List.set_cons_succ]
      refine wpHeld_cons (.int .i64 wri) rfl (fun w h => heldRun_value (run_load_one _ _ w 3 _ _ rfl bs 0 rfl (h.2.2.2.cell 0) (by kernel_rfl)) h) ?_
      simp only [Act.put, List.setIfInBounds_toArray, List.set_cons_zero, List.set_cons_succ]
      refine wpHeld_cons (.pointer (some ⟨bs, 1, none⟩)) rfl (fun w h => heldRun_value (by kernel_rfl) h) ?_
      simp only [Act.put, List.setIfInBounds_toArray, List.set_cons_zero, List.set_cons_succ]
      refine wpHeld_cons (.int .i64 op) rfl (fun w h => heldRun_value (run_load_one _ _ w 3 _ _ rfl bs 1 rfl (h.2.2.2.cell 1) (by kernel_rfl)) h) ?_
      simp only [Act.put, List.setIfInBounds_toArray, List.set_cons_zero, List.set_cons_succ]
      refine wpHeld_cons (.pointer (some ⟨bs, 2, none⟩)) rfl (fun w h => heldRun_value (by kernel_rfl) h) ?_
      simp only [Act.put, List.setIfInBounds_toArray, List.set_cons_zero, List.set_cons_succ]
      refine wpHeld_cons (.int .i64 mb) rfl (fun w h => heldRun_value (run_load_one _ _ w 3 _ _ rfl bs 2 rfl (h.2.2.2.cell 2) (by kernel_rfl)) h) ?_
      simp only [Act.put, List.setIfInBounds_toArray, List.set_cons_zero, List.set_cons_succ]
      refine wpHeld_cons (.pointer (some ⟨bs, 3, none⟩)) rfl (fun w h => heldRun_value (by kernel_rfl) h) ?_
      simp only [Act.put, List.setIfInBounds_toArray, List.set_cons_zero, List.set_cons_succ]
      refine wpHeld_cons (.int .u64 cut) rfl (fun w h => heldRun_value (run_load_one _ _ w 23 _ _ rfl bs 3 rfl (h.2.2.2.cell 3) (by kernel_rfl)) h) ?_
      simp only [Act.put, List.setIfInBounds_toArray, List.set_cons_zero, List.set_cons_succ]
      refine wpHeld_call _ 11 #[.agg g.cells.toArray, .int .i64 wri, .int .i64 op, .int .i64 mb, .int .u64 cut] rfl (fun w => by kernel_rfl) (fun w h => (KB.out w).mono (fun e w'' ⟨he, hb⟩ => ⟨he, h.step LE.out hb⟩)) ?_
      simp only [Act.put, List.setIfInBounds_toArray, List.set_cons_zero, List.set_cons_succ]
      refine wpHeld_cons (.bool false) rfl (fun w h => heldRun_value (neq28 _ w _ _ _ _ rfl rfl rfl) h) ?_
      simp only [Act.put, List.setIfInBounds_toArray, List.set_cons_zero, List.set_cons_succ]
      refine wpHeld_nil ?_
      intro w5 S5
      have HS5 := Lib.hid S5
      clear S5 hS
      by_cases h0 : E = 0
      · subst h0
        have ST := Lib.hid (HM.out rfl)
        clear HM
        have HN : Hid (IsG w5 bn g') := Lib.hid HS5.out.2.2.1
        have HG : Hid (IsG w5 bg g) := Lib.hid HS5.out.2.1
        go_wp2_with (first | (refine wpL_load 28 _ rfl (by rfl) bn 0 rfl g'.cells _ (range_blk HN.out) Try.underlying28 rfl (sizeG _) ?_) | (refine wpList_store_row rfl 28 _ _ rfl bg _ rfl rfl 28 _ HG.out (sizeG _) rfl (one_cells _) ?_))
        try simp only [Act.put, List.setIfInBounds_toArray, List.set_cons_zero, List.set_cons_succ]
        try go_wp2_with fail
        go_roundw
        case rel => exact ⟨k + 1, by omega, by go_num, Lib.hid ⟨g', ST.out.inv, by have := ST.out.s; have := S0.out; omega, by have := ST.out.s; have := S1.out; omega, setRow_heap _ _ _ _ _ _ HG.out, below_setRow HS5.out.1 HS.out _⟩⟩
        case measure => simp [intOf]; omega
      · have h0' : (E == 0) = false := by simpa using h0
        clear h0 HM
        go_wp2_with fail
        go_roundw
        case rel => exact ⟨k + 1, by omega, by go_num, Lib.hid ⟨g, HI.out, S0.out, by have := S1.out; omega, HS5.out.2.1, HS5.out.1⟩⟩
        case measure => simp [intOf]; omega
    · obtain rfl : k = len := by have := HLK.out; omega
      have hB2 := RI.out
      obtain ⟨g, _, _, _, hg, hbw⟩ := hB2
      have HSG : Hid (SG bg B w g wr) := Lib.hid ⟨hbw, hg⟩
      clear hbw hg RI hk hlt
      go_wp2
      go_loopw [10] (fun s10 wr => ∃ n : Int, -1 ≤ n ∧ n ≤ 9 ∧ s10 = .int .i64 n ∧ Hid (SG bg B w g wr)) (fun s10 _ => (9 - intOf s10).toNat)
      case atStart => exact ⟨-1, by omega, by omega, rfl, HSG⟩
      case round =>
        clear HSG
        obtain ⟨n, n0, n9, rfl, RJ⟩ := hrel
        by_cases h8 : n ≤ 8
        · by_cases hin : 1 ≤ n ∧ n ≤ 6
          · obtain ⟨j, hj, rfl⟩ : ∃ j : Nat, j < 6 ∧ n = (j : Int) + 1 := ⟨(n - 1).toNat, by omega, by omega⟩
            obtain ⟨l1, l6⟩ := hin
            have HJ := Lib.hid hj
            have j0 : (0 : Int) ≤ (j : Int) := by omega
            have j6 : (j : Int) < 6 := by omega
            have KI := Lib.hid (is_yes (g := g) (k := j) (hk := hj))
            have KC := Lib.hid (countB (g := g) (k := j) (hk := hj) (q := q))
            have cm := RJ.out.2.cm j hj
            have cg := RJ.out.2.cg j hj
            have cc := RJ.out.2.cc j hj
            clear hj n0 n9
            generalize g.M j = m at KI KC cm
            generalize g.G j = l at KC cg
            generalize g.C j = c at KC cc
            cases m <;> cases l
            all_goals
              go_upto_region 20 with (fail)
              clear cm cg cc
              have HG : Hid (IsG wr bg g) := Lib.hid RJ.out.2
              go_wp2_with (refine wpL_load 28 _ rfl (by rfl) bg 0 rfl g.cells _ (range_blk HG.out) Try.underlying28 rfl (sizeG _) ?_)
              refine (KI.out _).mono ?_
              rintro e w6 ⟨rfl, hb6⟩
              have S6 : Hid (SG bg B w g w6) := Lib.hid (SG.step RJ.out LE.out hb6)
              replace HG : Hid (IsG w6 bg g) := Lib.hid S6.out.2
              clear hb6
              go_wp2_with (refine wpL_load 28 _ rfl (by rfl) bg 0 rfl g.cells _ (range_blk HG.out) Try.underlying28 rfl (sizeG _) ?_)
              refine (KC.out _).mono ?_
              rintro e w7 ⟨rfl, hb7⟩
              have S7 : Hid (SG bg B w g w7) := Lib.hid (SG.step S6.out LE.out hb7)
              clear hb7 HG
              simp only [Bool.false_or, Bool.true_or, Bool.false_and, Bool.true_and]
              go_wp2_with fail
              go_roundw
              case rel => exact ⟨(j : Int) + 1 + 1, by omega, by omega, by go_num, S7⟩
              case measure => simp [intOf]; omega
          · have hkn : knownB n = false := by unfold knownB; simpa using hin
            have KI := Lib.hid (is_no (g := g) (x := n) (hx := hkn))
            have KC := Lib.hid (count_no (g := g) (x := n) (hx := hkn) (q := q))
            clear hkn
            have HG : Hid (IsG wr bg g) := Lib.hid RJ.out.2
            by_cases h1 : 1 ≤ n
            · have h6 : decide (n ≤ 6) = false := by simp; omega
              clear hin
              go_upto_region 20 with (fail)
              go_wp2_with (refine wpL_load 28 _ rfl (by rfl) bg 0 rfl g.cells _ (range_blk HG.out) Try.underlying28 rfl (sizeG _) ?_)
              refine (KI.out _).mono ?_
              rintro e w6 ⟨rfl, hb6⟩
              have S6 : Hid (SG bg B w g w6) := Lib.hid (SG.step RJ.out LE.out hb6)
              replace HG : Hid (IsG w6 bg g) := Lib.hid S6.out.2
              clear hb6
              go_wp2_with (refine wpL_load 28 _ rfl (by rfl) bg 0 rfl g.cells _ (range_blk HG.out) Try.underlying28 rfl (sizeG _) ?_)
              refine (KC.out _).mono ?_
              rintro e w7 ⟨rfl, hb7⟩
              have S7 : Hid (SG bg B w g w7) := Lib.hid (SG.step S6.out LE.out hb7)
              clear hb7 HG
              go_wp2_with fail
              go_roundw
              case rel => exact ⟨n + 1, by omega, by omega, by go_num, S7⟩
              case measure => simp [intOf]; omega
            · have h1' : decide (1 ≤ n) = false := by simpa using h1
              clear hin
              go_upto_region 20 with (fail)
              go_wp2_with (refine wpL_load 28 _ rfl (by rfl) bg 0 rfl g.cells _ (range_blk HG.out) Try.underlying28 rfl (sizeG _) ?_)
              refine (KI.out _).mono ?_
              rintro e w6 ⟨rfl, hb6⟩
              have S6 : Hid (SG bg B w g w6) := Lib.hid (SG.step RJ.out LE.out hb6)
              replace HG : Hid (IsG w6 bg g) := Lib.hid S6.out.2
              clear hb6
              go_wp2_with (refine wpL_load 28 _ rfl (by rfl) bg 0 rfl g.cells _ (range_blk HG.out) Try.underlying28 rfl (sizeG _) ?_)
              refine (KC.out _).mono ?_
              rintro e w7 ⟨rfl, hb7⟩
              have S7 : Hid (SG bg B w g w7) := Lib.hid (SG.step S6.out LE.out hb7)
              clear hb7 HG
              go_wp2_with fail
              go_roundw
              case rel => exact ⟨n + 1, by omega, by omega, by go_num, S7⟩
              case measure => simp [intOf]; omega
        · have h8' : decide (n ≤ 8) = false := by simpa using h8
          clear n0 n9 h8
          go_wp2
          go_ret
          exact ⟨rfl, by rw [EB.out]; exact RJ.out.1⟩
end Go.Proofs.Ytdhpgadhdgpbdaa
