import Derived.Test.YtdhpgadhdgpbdaaG6
namespace Go.Proofs.Ytdhpgadhdgpbdaa
open Go.RowKit

/-- a slice of steps that came in. -/
def IsSteps (w : World) (a : Option Addr) (len cap : Nat) : Prop :=
  (a = none ∧ len = 0 ∧ cap = 0) ∨ ∃ b off : Nat, a = some ⟨b, off, none⟩ ∧ len ≤ cap ∧ cap ≤ maxLen ∧
    ∀ k, k < len → ∃ wr op mb cut : Int, w.cell? ⟨b, off + k * 4, none⟩ = some (.int .i64 wr) ∧ w.cell? ⟨b, off + k * 4 + 1, none⟩ = some (.int .i64 op) ∧ w.cell? ⟨b, off + k * 4 + 2, none⟩ = some (.int .i64 mb) ∧ w.cell? ⟨b, off + k * 4 + 3, none⟩ = some (.int .u64 cut)
/-- what holds in the last region of a round. -/
def SS (bg bs B : Nat) (w : World) (g : Grp) (wri op mb cut : Int) (X : World) : Prop := Below B w X ∧ IsG X bg g ∧ Blk X bs 30 #[.int .i64 wri, .int .i64 op, .int .i64 mb, .int .u64 cut]
theorem SS.step {bg bs B : Nat} {w X Y : World} {g : Grp} {wri op mb cut : Int} (h : SS bg bs B w g wri op mb cut X) (hB : B ≤ w.heap.size) (hb : Below X.heap.size X Y) : SS bg bs B w g wri op mb cut Y :=
  ⟨h.1.trans (hb.mono (Nat.le_trans hB h.1.size)), Blk.keep h.2.1 hb h.2.1.lt, Blk.keep h.2.2 hb h.2.2.lt⟩
theorem count_at (g : Grp) (x q : Int) (k : Nat) (hk : k < 6) (hx : x = (k : Int) + 1) (r : Bool) (hr : (g.M k || (g.G k && decide (q ≤ g.C k))) = r) (w : World) :
    Calls Try.prog 9 #[.agg g.cells.toArray, .int .i64 x, .int .u64 q] w fun e w' => e = .returned (.bool r) ∧ Below w.heap.size w w' := by
  subst hx
  subst hr
  exact countB w g k hk q
/-- what is read at a cell. -/
theorem run_load_one (a : Act) (o : Oper) (w : World) (ty : TypeId) (x : Operand) (v : Value) (ho : o.op = .load ty x) (b off : Nat) (hx : a.eval x = .pointer (some ⟨b, off, none⟩)) (hc : w.cell? ⟨b, off, none⟩ = some v) (hagg : (isAgg ty).run Try.prog w = .ok false w) : (execOp a.eval o).run Try.prog w = .ok (.value v) w := by
  unfold execOp
  simp only [ho, hx]
  go_simp
/-- what stands at a round's head. -/
def Rd (bg B : Nat) (w : World) (k : Nat) (wr : World) : Prop := ∃ g : Grp, Inv g ∧ 0 ≤ g.s ∧ g.s ≤ (k : Int) ∧ IsG wr bg g ∧ Below B w wr

set_option maxHeartbeats 4000000 in
theorem walkCounts (b off len cap : Nat) (q : Int) (w : World) (hl0 : 0 < len) (hst : ∀ k, k < len → ∃ wr op mb cut : Int, w.cell? ⟨b, off + k * 4, none⟩ = some (.int .i64 wr) ∧ w.cell? ⟨b, off + k * 4 + 1, none⟩ = some (.int .i64 op) ∧ w.cell? ⟨b, off + k * 4 + 2, none⟩ = some (.int .i64 mb) ∧ w.cell? ⟨b, off + k * 4 + 3, none⟩ = some (.int .u64 cut)) (hcap : cap ≤ maxLen) (hlen : len ≤ 60) :
    Calls Try.prog 3 #[.slice (some ⟨b, off, none⟩) len cap, .int .u64 q] w fun e w' => e = .returned (.bool true) ∧ Below w.heap.size w w' := by
  have HST := Lib.hid hst
  have HL := Lib.hid hlen
  have BLT : Hid (b < w.heap.size) := Lib.hid (by
    obtain ⟨_, _, _, _, h, _⟩ := hst 0 hl0
    exact World.block_lt_of_cell? w _ h)
  have hl : ((60 : Int) < (len : Int)) = False := by simp; omega
  clear hst hlen hl0 hcap
  go_enter Try.func3, Try.ntmps3
  go_wp2_with (go_at_call 6; refine (awake_any _).mono ?_; rintro e w1 ⟨rfl, hb⟩)
  obtain ⟨W, hW⟩ : ∃ V, V = w1.alloc (.cells #[.int .i64 0, .int .i64 0, .bool false, .bool false, .bool false, .bool false, .bool false, .bool false, .bool false, .bool false, .bool false, .bool false, .bool false, .bool false, .int .u64 0, .int .u64 0, .int .u64 0, .int .u64 0, .int .u64 0, .int .u64 0, .int .i64 0] 28) := ⟨_, rfl⟩
  rw [← hW]
  have hg0 : IsG W w1.heap.size zg := by rw [hW]; exact Blk.new _ _ _
  have hR : Rd w1.heap.size w.heap.size w 0 W := ⟨zg, inv_zero, by decide, by decide, hg0, by rw [hW]; exact hb.alloc hb.size _⟩
  have HR := Lib.hid hR
  have HS : Hid (w.heap.size ≤ w1.heap.size) := Lib.hid hb.size
  clear hR hg0 hW hb hl
  generalize w1.heap.size = bg at *
  generalize hB : w.heap.size = B at *
  have EB := Lib.hid hB
  clear hB
  go_loopw [6] (fun s6 wr => ∃ k : Nat, k ≤ len ∧ s6 = .int .i64 k ∧ Hid (Rd bg B w k wr)) (fun s6 _ => len - (intOf s6).toNat)
  case atStart => exact ⟨0, Nat.zero_le _, rfl, HR⟩
  case round =>
    clear HR
    obtain ⟨k, hk, rfl, RI⟩ := hrel
    have HLK := Lib.hid hk
    by_cases hlt : k < len
    · obtain ⟨g, hI, s0, s1, hg, hbw⟩ := RI.out
      obtain ⟨wri, op, mb, cut, d0, d1, d2, d3⟩ := HST.out k hlt
      have hbl : b < B := by have := BLT.out; omega
      have c0 : wr.cell? ⟨b, off + k * 4, none⟩ = some (.int .i64 wri) := (hbw.cell (p := ⟨b, off + k * 4, none⟩) hbl).trans d0
      have c1 : wr.cell? ⟨b, off + k * 4 + 1, none⟩ = some (.int .i64 op) := (hbw.cell (p := ⟨b, off + k * 4 + 1, none⟩) hbl).trans d1
      have c2 : wr.cell? ⟨b, off + k * 4 + 2, none⟩ = some (.int .i64 mb) := (hbw.cell (p := ⟨b, off + k * 4 + 2, none⟩) hbl).trans d2
      have c3 : wr.cell? ⟨b, off + k * 4 + 3, none⟩ = some (.int .u64 cut) := (hbw.cell (p := ⟨b, off + k * 4 + 3, none⟩) hbl).trans d3
      have HI := Lib.hid hI
      have S0 := Lib.hid s0
      have S1 := Lib.hid s1
      have HG := Lib.hid hg
      have hgl : Hid (bg < wr.heap.size) := Lib.hid hg.lt
      have BW := Lib.hid hbw
      have BL := Lib.hid hbl
      clear hI s0 s1 hg hbw hbl d0 d1 d2 d3 RI hk
      have i0 : (0 : Int) ≤ (k : Int) := by omega
      have i1 : (k : Int) < (len : Int) := by omega
      have i2 : (len : Int) ≤ 60 := by have := HL.out; omega
      go_upto_region 8 with (fail)
      obtain ⟨W8, hW⟩ : ∃ V, V = wr.alloc (.cells #[.int .i64 wri, .int .i64 op, .int .i64 mb, .int .u64 cut] 30) := ⟨_, rfl⟩
      rw [← hW]
      have hq : Blk W8 wr.heap.size 30 #[.int .i64 wri, .int .i64 op, .int .i64 mb, .int .u64 cut] := by rw [hW]; exact Blk.new _ _ _
      replace HG : Hid (IsG W8 bg g) := Lib.hid (by rw [hW]; exact Blk.alloc HG.out _)
      have NE : Hid (bg ≠ wr.heap.size) := Lib.hid (by
        have := hgl.out
        omega)
      replace BW : Hid (Below B w W8) := Lib.hid (by rw [hW]; exact BW.out.alloc (by have := BW.out.size; rw [← EB.out]; exact this) _)
      clear hW c0 c1 c2 c3
      generalize wr.heap.size = bs at *
      have e0 : W8.cell? ⟨bs, 0, none⟩ = some (.int .i64 wri) := hq.cell 0
      have e1 : W8.cell? ⟨bs, 1, none⟩ = some (.int .i64 op) := hq.cell 1
      have e2 : W8.cell? ⟨bs, 2, none⟩ = some (.int .i64 mb) := hq.cell 2
      have e3 : W8.cell? ⟨bs, 3, none⟩ = some (.int .u64 cut) := hq.cell 3
      have HQ := Lib.hid hq
      clear hq
      go_wp2_with (refine wpL_load 28 _ rfl (by rfl) bg 0 rfl g.cells _ (range_blk HG.out) Try.underlying28 rfl (sizeG _) ?_)
      refine (may_any _ g wri op mb).mono ?_
      rintro e w2 ⟨rfl, hb2⟩
      replace HG : Hid (IsG w2 bg g) := Lib.hid (Blk.keep HG.out hb2 HG.out.lt)
      replace BW : Hid (Below B w w2) := Lib.hid (BW.out.trans (hb2.mono (by have := BW.out.size; rw [← EB.out]; exact this)))
      replace HQ : Hid (Blk w2 bs 30 #[.int .i64 wri, .int .i64 op, .int .i64 mb, .int .u64 cut]) := Lib.hid (Blk.keep HQ.out hb2 HQ.out.lt)
      clear hb2 e0 e1 e2 e3
      by_cases hm : mayI g wri op mb = 0
      · rw [hm]
        have HM := Lib.hid hm
        clear hm
        have hs := stepped g wri op mb cut HI.out HM.out
        have ST := Lib.hid hs
        clear hs
        have e0 : w2.cell? ⟨bs, 0, none⟩ = some (.int .i64 wri) := HQ.out.cell 0
        have e1 : w2.cell? ⟨bs, 1, none⟩ = some (.int .i64 op) := HQ.out.cell 1
        have e2 : w2.cell? ⟨bs, 2, none⟩ = some (.int .i64 mb) := HQ.out.cell 2
        have e3 : w2.cell? ⟨bs, 3, none⟩ = some (.int .u64 cut) := HQ.out.cell 3
        go_wp2_with (refine wpL_load 28 _ rfl (by rfl) bg 0 rfl g.cells _ (range_blk HG.out) Try.underlying28 rfl (sizeG _) ?_)
        have HK60 : Hid (k < 60) := Lib.hid (by have := HL.out; omega)
        refine (behind_any _ g wri op mb cut (by have := HI.out.e0; omega) (by have := HI.out.e1; omega) S0.out (by have := S1.out; have := HK60.out; omega)).mono ?_
        rintro e w3 ⟨rfl, hb3⟩
        replace HG : Hid (IsG w3 bg g) := Lib.hid (Blk.keep HG.out hb3 HG.out.lt)
        replace BW : Hid (Below B w w3) := Lib.hid (BW.out.trans (hb3.mono (by have := BW.out.size; rw [← EB.out]; exact this)))
        replace HQ : Hid (Blk w3 bs 30 #[.int .i64 wri, .int .i64 op, .int .i64 mb, .int .u64 cut]) := Lib.hid (Blk.keep HQ.out hb3 HQ.out.lt)
        clear hb3 e0 e1 e2 e3
        generalize hgn : behindG g wri op mb cut = g' at *
        clear hgn
        go_wp2_with (refine wpList_store_row rfl 28 _ _ rfl bg _ rfl rfl 28 _ HG.out (sizeG _) rfl (one_cells _) ?_)
        simp only [Act.put, List.setIfInBounds_toArray, List.set_cons_zero, List.set_cons_succ]
        replace BW : Hid (Below B w (w3.setRow bg g'.cells.toArray)) := Lib.hid (below_setRow BW.out HS.out _)
        replace HQ : Hid (Blk (w3.setRow bg g'.cells.toArray) bs 30 #[.int .i64 wri, .int .i64 op, .int .i64 mb, .int .u64 cut]) := Lib.hid ((setRow_other _ _ _ _ (fun e => NE.out e.symm)).trans HQ.out)
        replace HG : Hid (IsG (w3.setRow bg g'.cells.toArray) bg g') := Lib.hid (setRow_heap _ _ _ _ _ _ HG.out)
        generalize w3.setRow bg g'.cells.toArray = w4 at *
        have LE : Hid (B ≤ w.heap.size) := Lib.hid (by rw [EB.out]; exact Nat.le_refl _)
        have KO : Hid (∀ w, Calls Try.prog 9 #[.agg g'.cells.toArray, .int .i64 g'.o, .int .u64 q] w fun e w' => e = .returned (.bool true) ∧ Below w.heap.size w w') := Lib.hid (by
          obtain ⟨ko, h1, h2, h3⟩ := ST.out.own
          exact count_at g' _ q ko h1 h2 true (by simp [h3]))
        have hS : SS bg bs B w g' wri op mb cut w4.drew := ⟨BW.out.drew, HG.out, HQ.out⟩
        have hops := ST.out.ops
        have hadd := ST.out.add
        have hrem := ST.out.remove
        have HI' := Lib.hid ST.out.inv
        have SV := Lib.hid ST.out.s
        clear ST HI HM BW HG HQ
        rcases hops with rfl | rfl | rfl | rfl | rfl
        · clear hadd hrem
          refine region_held (SS bg bs B w g' wri 1 mb cut) 35 (by kernel_rfl) (by kernel_rfl) hS ?_
          simp only [List.take_succ_cons, List.take_zero, List.drop_succ_cons, List.drop_zero]
          refine wpHeld_cons (.pointer (some ⟨bs, 1, none⟩)) rfl (fun w h => heldRun_value (by kernel_rfl) h) ?_
          simp only [Act.put, List.setIfInBounds_toArray, List.set_cons_zero, List.set_cons_succ]
          refine wpHeld_cons (.int .i64 1) rfl (fun w h => heldRun_value (run_load_one _ _ w 3 _ _ rfl bs 1 rfl (h.2.2.cell 1) (by kernel_rfl)) h) ?_
          simp only [Act.put, List.setIfInBounds_toArray, List.set_cons_zero, List.set_cons_succ]
          refine wpHeld_cons (.bool false) rfl (fun w h => heldRun_value (by kernel_rfl) h) ?_
          simp only [Act.put, List.setIfInBounds_toArray, List.set_cons_zero, List.set_cons_succ]
          refine wpHeld_cons (.bool false) rfl (fun w h => heldRun_value (by kernel_rfl) h) ?_
          simp only [Act.put, List.setIfInBounds_toArray, List.set_cons_zero, List.set_cons_succ]
          refine wpHeld_skip rfl ?_
          simp only [Act.put, List.setIfInBounds_toArray, List.set_cons_zero, List.set_cons_succ]
          refine wpHeld_skip rfl ?_
          simp only [Act.put, List.setIfInBounds_toArray, List.set_cons_zero, List.set_cons_succ]
          refine wpHeld_skip rfl ?_
          simp only [Act.put, List.setIfInBounds_toArray, List.set_cons_zero, List.set_cons_succ]
          refine wpHeld_skip rfl ?_
          simp only [Act.put, List.setIfInBounds_toArray, List.set_cons_zero, List.set_cons_succ]
          refine wpHeld_skip rfl ?_
          simp only [Act.put, List.setIfInBounds_toArray, List.set_cons_zero, List.set_cons_succ]
          refine wpHeld_skip rfl ?_
          simp only [Act.put, List.setIfInBounds_toArray, List.set_cons_zero, List.set_cons_succ]
          refine wpHeld_skip rfl ?_
          simp only [Act.put, List.setIfInBounds_toArray, List.set_cons_zero, List.set_cons_succ]
          refine wpHeld_skip rfl ?_
          simp only [Act.put, List.setIfInBounds_toArray, List.set_cons_zero, List.set_cons_succ]
          refine wpHeld_skip rfl ?_
          simp only [Act.put, List.setIfInBounds_toArray, List.set_cons_zero, List.set_cons_succ]
          refine wpHeld_skip rfl ?_
          simp only [Act.put, List.setIfInBounds_toArray, List.set_cons_zero, List.set_cons_succ]
          refine wpHeld_cons (.bool false) rfl (fun w h => heldRun_value (by kernel_rfl) h) ?_
          simp only [Act.put, List.setIfInBounds_toArray, List.set_cons_zero, List.set_cons_succ]
          refine wpHeld_cons (.bool false) rfl (fun w h => heldRun_value (by kernel_rfl) h) ?_
          simp only [Act.put, List.setIfInBounds_toArray, List.set_cons_zero, List.set_cons_succ]
          refine wpHeld_cons (.pointer (some ⟨bs, 1, none⟩)) rfl (fun w h => heldRun_value (by kernel_rfl) h) ?_
          simp only [Act.put, List.setIfInBounds_toArray, List.set_cons_zero, List.set_cons_succ]
          refine wpHeld_cons (.int .i64 1) rfl (fun w h => heldRun_value (run_load_one _ _ w 3 _ _ rfl bs 1 rfl (h.2.2.cell 1) (by kernel_rfl)) h) ?_
          simp only [Act.put, List.setIfInBounds_toArray, List.set_cons_zero, List.set_cons_succ]
          refine wpHeld_cons (.bool false) rfl (fun w h => heldRun_value (by kernel_rfl) h) ?_
          simp only [Act.put, List.setIfInBounds_toArray, List.set_cons_zero, List.set_cons_succ]
          refine wpHeld_cons (.bool false) rfl (fun w h => heldRun_value (by kernel_rfl) h) ?_
          simp only [Act.put, List.setIfInBounds_toArray, List.set_cons_zero, List.set_cons_succ]
          refine wpHeld_skip rfl ?_
          simp only [Act.put, List.setIfInBounds_toArray, List.set_cons_zero, List.set_cons_succ]
          refine wpHeld_skip rfl ?_
          simp only [Act.put, List.setIfInBounds_toArray, List.set_cons_zero, List.set_cons_succ]
          refine wpHeld_skip rfl ?_
          simp only [Act.put, List.setIfInBounds_toArray, List.set_cons_zero, List.set_cons_succ]
          refine wpHeld_skip rfl ?_
          simp only [Act.put, List.setIfInBounds_toArray, List.set_cons_zero, List.set_cons_succ]
          refine wpHeld_skip rfl ?_
          simp only [Act.put, List.setIfInBounds_toArray, List.set_cons_zero, List.set_cons_succ]
          refine wpHeld_skip rfl ?_
          simp only [Act.put, List.setIfInBounds_toArray, List.set_cons_zero, List.set_cons_succ]
          refine wpHeld_cons (.bool false) rfl (fun w h => heldRun_value (by kernel_rfl) h) ?_
          simp only [Act.put, List.setIfInBounds_toArray, List.set_cons_zero, List.set_cons_succ]
          refine wpHeld_cons (.bool false) rfl (fun w h => heldRun_value (by kernel_rfl) h) ?_
          simp only [Act.put, List.setIfInBounds_toArray, List.set_cons_zero, List.set_cons_succ]
          refine wpHeld_cons (.bool false) rfl (fun w h => heldRun_value (by kernel_rfl) h) ?_
          simp only [Act.put, List.setIfInBounds_toArray, List.set_cons_zero, List.set_cons_succ]
          refine wpHeld_load 28 _ rfl rfl bg 0 rfl g'.cells _ (fun w h => range_blk h.2.1) Try.underlying28 rfl (sizeG _) ?_
          simp only [Act.put, List.setIfInBounds_toArray, List.set_cons_zero, List.set_cons_succ]
          refine wpHeld_cons (.pointer (some ⟨bg, 0, none⟩)) rfl (fun w h => heldRun_value (by kernel_rfl) h) ?_
          simp only [Act.put, List.setIfInBounds_toArray, List.set_cons_zero, List.set_cons_succ]
          refine wpHeld_cons (.int .i64 g'.o) rfl (fun w h => heldRun_value (run_load_one _ _ w 3 _ _ rfl bg 0 rfl (h.2.1.o) (by kernel_rfl)) h) ?_
          simp only [Act.put, List.setIfInBounds_toArray, List.set_cons_zero, List.set_cons_succ]
          refine wpHeld_cons (.int .u64 q) rfl (fun w h => heldRun_value (by kernel_rfl) h) ?_
          simp only [Act.put, List.setIfInBounds_toArray, List.set_cons_zero, List.set_cons_succ]
          refine wpHeld_call (.bool true) 9 #[.agg g'.cells.toArray, .int .i64 g'.o, .int .u64 q] rfl (fun w => by kernel_rfl) (fun w h => (KO.out w).mono (fun e w'' ⟨he, hb⟩ => ⟨he, h.step LE.out hb⟩)) ?_
          simp only [Act.put, List.setIfInBounds_toArray, List.set_cons_zero, List.set_cons_succ]
          refine wpHeld_cons (.bool false) rfl (fun w h => heldRun_value (by kernel_rfl) h) ?_
          simp only [Act.put, List.setIfInBounds_toArray, List.set_cons_zero, List.set_cons_succ]
          refine wpHeld_nil ?_
          intro w5 S5
          have HS5 := Lib.hid S5
          clear S5 hS
          go_wp2_with fail
          go_roundw
          case rel => exact ⟨k + 1, by omega, by go_num, Lib.hid ⟨g', HI'.out, by have := SV.out; have := S0.out; omega, by have := SV.out; have := S1.out; omega, HS5.out.2.1, HS5.out.1⟩⟩
          case measure => simp [intOf]; omega
        · obtain ⟨km, m1, m2, m3⟩ := hadd rfl
          have KC : Hid (∀ w, Calls Try.prog 9 #[.agg g'.cells.toArray, .int .i64 mb, .int .u64 q] w fun e w' => e = .returned (.bool true) ∧ Below w.heap.size w w') := Lib.hid (count_at g' _ q km m1 m2 true (by simp [m3]))
          clear hadd hrem m1 m2 m3
          refine region_held (SS bg bs B w g' wri 2 mb cut) 35 (by kernel_rfl) (by kernel_rfl) hS ?_
          simp only [List.take_succ_cons, List.take_zero, List.drop_succ_cons, List.drop_zero]
          refine wpHeld_cons (.pointer (some ⟨bs, 1, none⟩)) rfl (fun w h => heldRun_value (by kernel_rfl) h) ?_
          simp only [Act.put, List.setIfInBounds_toArray, List.set_cons_zero, List.set_cons_succ]
          refine wpHeld_cons (.int .i64 2) rfl (fun w h => heldRun_value (run_load_one _ _ w 3 _ _ rfl bs 1 rfl (h.2.2.cell 1) (by kernel_rfl)) h) ?_
          simp only [Act.put, List.setIfInBounds_toArray, List.set_cons_zero, List.set_cons_succ]
          refine wpHeld_cons (.bool false) rfl (fun w h => heldRun_value (by kernel_rfl) h) ?_
          simp only [Act.put, List.setIfInBounds_toArray, List.set_cons_zero, List.set_cons_succ]
          refine wpHeld_cons (.bool false) rfl (fun w h => heldRun_value (by kernel_rfl) h) ?_
          simp only [Act.put, List.setIfInBounds_toArray, List.set_cons_zero, List.set_cons_succ]
          refine wpHeld_skip rfl ?_
          simp only [Act.put, List.setIfInBounds_toArray, List.set_cons_zero, List.set_cons_succ]
          refine wpHeld_skip rfl ?_
          simp only [Act.put, List.setIfInBounds_toArray, List.set_cons_zero, List.set_cons_succ]
          refine wpHeld_skip rfl ?_
          simp only [Act.put, List.setIfInBounds_toArray, List.set_cons_zero, List.set_cons_succ]
          refine wpHeld_skip rfl ?_
          simp only [Act.put, List.setIfInBounds_toArray, List.set_cons_zero, List.set_cons_succ]
          refine wpHeld_skip rfl ?_
          simp only [Act.put, List.setIfInBounds_toArray, List.set_cons_zero, List.set_cons_succ]
          refine wpHeld_skip rfl ?_
          simp only [Act.put, List.setIfInBounds_toArray, List.set_cons_zero, List.set_cons_succ]
          refine wpHeld_skip rfl ?_
          simp only [Act.put, List.setIfInBounds_toArray, List.set_cons_zero, List.set_cons_succ]
          refine wpHeld_skip rfl ?_
          simp only [Act.put, List.setIfInBounds_toArray, List.set_cons_zero, List.set_cons_succ]
          refine wpHeld_skip rfl ?_
          simp only [Act.put, List.setIfInBounds_toArray, List.set_cons_zero, List.set_cons_succ]
          refine wpHeld_skip rfl ?_
          simp only [Act.put, List.setIfInBounds_toArray, List.set_cons_zero, List.set_cons_succ]
          refine wpHeld_cons (.bool false) rfl (fun w h => heldRun_value (by kernel_rfl) h) ?_
          simp only [Act.put, List.setIfInBounds_toArray, List.set_cons_zero, List.set_cons_succ]
          refine wpHeld_cons (.bool false) rfl (fun w h => heldRun_value (by kernel_rfl) h) ?_
          simp only [Act.put, List.setIfInBounds_toArray, List.set_cons_zero, List.set_cons_succ]
          refine wpHeld_cons (.pointer (some ⟨bs, 1, none⟩)) rfl (fun w h => heldRun_value (by kernel_rfl) h) ?_
          simp only [Act.put, List.setIfInBounds_toArray, List.set_cons_zero, List.set_cons_succ]
          refine wpHeld_cons (.int .i64 2) rfl (fun w h => heldRun_value (run_load_one _ _ w 3 _ _ rfl bs 1 rfl (h.2.2.cell 1) (by kernel_rfl)) h) ?_
          simp only [Act.put, List.setIfInBounds_toArray, List.set_cons_zero, List.set_cons_succ]
          refine wpHeld_cons (.bool true) rfl (fun w h => heldRun_value (by kernel_rfl) h) ?_
          simp only [Act.put, List.setIfInBounds_toArray, List.set_cons_zero, List.set_cons_succ]
          refine wpHeld_cons (.bool true) rfl (fun w h => heldRun_value (by kernel_rfl) h) ?_
          simp only [Act.put, List.setIfInBounds_toArray, List.set_cons_zero, List.set_cons_succ]
          refine wpHeld_load 28 _ rfl rfl bg 0 rfl g'.cells _ (fun w h => range_blk h.2.1) Try.underlying28 rfl (sizeG _) ?_
          simp only [Act.put, List.setIfInBounds_toArray, List.set_cons_zero, List.set_cons_succ]
          refine wpHeld_cons (.pointer (some ⟨bs, 2, none⟩)) rfl (fun w h => heldRun_value (by kernel_rfl) h) ?_
          simp only [Act.put, List.setIfInBounds_toArray, List.set_cons_zero, List.set_cons_succ]
          refine wpHeld_cons (.int .i64 mb) rfl (fun w h => heldRun_value (run_load_one _ _ w 3 _ _ rfl bs 2 rfl (h.2.2.cell 2) (by kernel_rfl)) h) ?_
          simp only [Act.put, List.setIfInBounds_toArray, List.set_cons_zero, List.set_cons_succ]
          refine wpHeld_cons (.int .u64 q) rfl (fun w h => heldRun_value (by kernel_rfl) h) ?_
          simp only [Act.put, List.setIfInBounds_toArray, List.set_cons_zero, List.set_cons_succ]
          refine wpHeld_call (.bool true) 9 #[.agg g'.cells.toArray, .int .i64 mb, .int .u64 q] rfl (fun w => by kernel_rfl) (fun w h => (KC.out w).mono (fun e w'' ⟨he, hb⟩ => ⟨he, h.step LE.out hb⟩)) ?_
          simp only [Act.put, List.setIfInBounds_toArray, List.set_cons_zero, List.set_cons_succ]
          refine wpHeld_cons (.bool false) rfl (fun w h => heldRun_value (by kernel_rfl) h) ?_
          simp only [Act.put, List.setIfInBounds_toArray, List.set_cons_zero, List.set_cons_succ]
          refine wpHeld_cons (.bool false) rfl (fun w h => heldRun_value (by kernel_rfl) h) ?_
          simp only [Act.put, List.setIfInBounds_toArray, List.set_cons_zero, List.set_cons_succ]
          refine wpHeld_cons (.bool false) rfl (fun w h => heldRun_value (by kernel_rfl) h) ?_
          simp only [Act.put, List.setIfInBounds_toArray, List.set_cons_zero, List.set_cons_succ]
          refine wpHeld_cons (.bool false) rfl (fun w h => heldRun_value (by kernel_rfl) h) ?_
          simp only [Act.put, List.setIfInBounds_toArray, List.set_cons_zero, List.set_cons_succ]
          refine wpHeld_load 28 _ rfl rfl bg 0 rfl g'.cells _ (fun w h => range_blk h.2.1) Try.underlying28 rfl (sizeG _) ?_
          simp only [Act.put, List.setIfInBounds_toArray, List.set_cons_zero, List.set_cons_succ]
          refine wpHeld_cons (.pointer (some ⟨bg, 0, none⟩)) rfl (fun w h => heldRun_value (by kernel_rfl) h) ?_
          simp only [Act.put, List.setIfInBounds_toArray, List.set_cons_zero, List.set_cons_succ]
          refine wpHeld_cons (.int .i64 g'.o) rfl (fun w h => heldRun_value (run_load_one _ _ w 3 _ _ rfl bg 0 rfl (h.2.1.o) (by kernel_rfl)) h) ?_
          simp only [Act.put, List.setIfInBounds_toArray, List.set_cons_zero, List.set_cons_succ]
          refine wpHeld_cons (.int .u64 q) rfl (fun w h => heldRun_value (by kernel_rfl) h) ?_
          simp only [Act.put, List.setIfInBounds_toArray, List.set_cons_zero, List.set_cons_succ]
          refine wpHeld_call (.bool true) 9 #[.agg g'.cells.toArray, .int .i64 g'.o, .int .u64 q] rfl (fun w => by kernel_rfl) (fun w h => (KO.out w).mono (fun e w'' ⟨he, hb⟩ => ⟨he, h.step LE.out hb⟩)) ?_
          simp only [Act.put, List.setIfInBounds_toArray, List.set_cons_zero, List.set_cons_succ]
          refine wpHeld_cons (.bool false) rfl (fun w h => heldRun_value (by kernel_rfl) h) ?_
          simp only [Act.put, List.setIfInBounds_toArray, List.set_cons_zero, List.set_cons_succ]
          refine wpHeld_nil ?_
          intro w5 S5
          have HS5 := Lib.hid S5
          clear S5 hS
          go_wp2_with fail
          go_roundw
          case rel => exact ⟨k + 1, by omega, by go_num, Lib.hid ⟨g', HI'.out, by have := SV.out; have := S0.out; omega, by have := SV.out; have := S1.out; omega, HS5.out.2.1, HS5.out.1⟩⟩
          case measure => simp [intOf]; omega
        · obtain ⟨km, m1, m2, m3, m4, m5⟩ := hrem rfl
          obtain ⟨X, hX⟩ : ∃ X : Bool, decide (q ≤ cut) = X := ⟨_, rfl⟩
          have KC : Hid (∀ w, Calls Try.prog 9 #[.agg g'.cells.toArray, .int .i64 mb, .int .u64 q] w fun e w' => e = .returned (.bool X) ∧ Below w.heap.size w w') := Lib.hid (count_at g' _ q km m1 m2 X (by simp [m3, m4, m5, hX]))
          have HX := Lib.hid hX
          clear hadd hrem m1 m2 m3 m4 m5 hX
          cases X
          · skip
            refine region_held (SS bg bs B w g' wri 3 mb cut) 35 (by kernel_rfl) (by kernel_rfl) hS ?_
            simp only [List.take_succ_cons, List.take_zero, List.drop_succ_cons, List.drop_zero]
            refine wpHeld_cons (.pointer (some ⟨bs, 1, none⟩)) rfl (fun w h => heldRun_value (by kernel_rfl) h) ?_
            simp only [Act.put, List.setIfInBounds_toArray, List.set_cons_zero, List.set_cons_succ]
            refine wpHeld_cons (.int .i64 3) rfl (fun w h => heldRun_value (run_load_one _ _ w 3 _ _ rfl bs 1 rfl (h.2.2.cell 1) (by kernel_rfl)) h) ?_
            simp only [Act.put, List.setIfInBounds_toArray, List.set_cons_zero, List.set_cons_succ]
            refine wpHeld_cons (.bool true) rfl (fun w h => heldRun_value (by kernel_rfl) h) ?_
            simp only [Act.put, List.setIfInBounds_toArray, List.set_cons_zero, List.set_cons_succ]
            refine wpHeld_cons (.bool true) rfl (fun w h => heldRun_value (by kernel_rfl) h) ?_
            simp only [Act.put, List.setIfInBounds_toArray, List.set_cons_zero, List.set_cons_succ]
            refine wpHeld_load 28 _ rfl rfl bg 0 rfl g'.cells _ (fun w h => range_blk h.2.1) Try.underlying28 rfl (sizeG _) ?_
            simp only [Act.put, List.setIfInBounds_toArray, List.set_cons_zero, List.set_cons_succ]
            refine wpHeld_cons (.pointer (some ⟨bs, 2, none⟩)) rfl (fun w h => heldRun_value (by kernel_rfl) h) ?_
            simp only [Act.put, List.setIfInBounds_toArray, List.set_cons_zero, List.set_cons_succ]
            refine wpHeld_cons (.int .i64 mb) rfl (fun w h => heldRun_value (run_load_one _ _ w 3 _ _ rfl bs 2 rfl (h.2.2.cell 2) (by kernel_rfl)) h) ?_
            simp only [Act.put, List.setIfInBounds_toArray, List.set_cons_zero, List.set_cons_succ]
            refine wpHeld_cons (.int .u64 q) rfl (fun w h => heldRun_value (by kernel_rfl) h) ?_
            simp only [Act.put, List.setIfInBounds_toArray, List.set_cons_zero, List.set_cons_succ]
            refine wpHeld_call (.bool false) 9 #[.agg g'.cells.toArray, .int .i64 mb, .int .u64 q] rfl (fun w => by kernel_rfl) (fun w h => (KC.out w).mono (fun e w'' ⟨he, hb⟩ => ⟨he, h.step LE.out hb⟩)) ?_
            simp only [Act.put, List.setIfInBounds_toArray, List.set_cons_zero, List.set_cons_succ]
            refine wpHeld_cons (.int .u64 q) rfl (fun w h => heldRun_value (by kernel_rfl) h) ?_
            simp only [Act.put, List.setIfInBounds_toArray, List.set_cons_zero, List.set_cons_succ]
            refine wpHeld_cons (.pointer (some ⟨bs, 3, none⟩)) rfl (fun w h => heldRun_value (by kernel_rfl) h) ?_
            simp only [Act.put, List.setIfInBounds_toArray, List.set_cons_zero, List.set_cons_succ]
            refine wpHeld_cons (.int .u64 cut) rfl (fun w h => heldRun_value (run_load_one _ _ w 23 _ _ rfl bs 3 rfl (h.2.2.cell 3) (by kernel_rfl)) h) ?_
            simp only [Act.put, List.setIfInBounds_toArray, List.set_cons_zero, List.set_cons_succ]
            refine wpHeld_cons (.bool false) rfl (fun w h => heldRun_value (by rw [← HX.out]; kernel_rfl) h) ?_
            simp only [Act.put, List.setIfInBounds_toArray, List.set_cons_zero, List.set_cons_succ]
            refine wpHeld_cons (.bool false) rfl (fun w h => heldRun_value (by kernel_rfl) h) ?_
            simp only [Act.put, List.setIfInBounds_toArray, List.set_cons_zero, List.set_cons_succ]
            refine wpHeld_cons (.bool false) rfl (fun w h => heldRun_value (by kernel_rfl) h) ?_
            simp only [Act.put, List.setIfInBounds_toArray, List.set_cons_zero, List.set_cons_succ]
            refine wpHeld_cons (.bool false) rfl (fun w h => heldRun_value (by kernel_rfl) h) ?_
            simp only [Act.put, List.setIfInBounds_toArray, List.set_cons_zero, List.set_cons_succ]
            refine wpHeld_cons (.pointer (some ⟨bs, 1, none⟩)) rfl (fun w h => heldRun_value (by kernel_rfl) h) ?_
            simp only [Act.put, List.setIfInBounds_toArray, List.set_cons_zero, List.set_cons_succ]
            refine wpHeld_cons (.int .i64 3) rfl (fun w h => heldRun_value (run_load_one _ _ w 3 _ _ rfl bs 1 rfl (h.2.2.cell 1) (by kernel_rfl)) h) ?_
            simp only [Act.put, List.setIfInBounds_toArray, List.set_cons_zero, List.set_cons_succ]
            refine wpHeld_cons (.bool false) rfl (fun w h => heldRun_value (by kernel_rfl) h) ?_
            simp only [Act.put, List.setIfInBounds_toArray, List.set_cons_zero, List.set_cons_succ]
            refine wpHeld_cons (.bool false) rfl (fun w h => heldRun_value (by kernel_rfl) h) ?_
            simp only [Act.put, List.setIfInBounds_toArray, List.set_cons_zero, List.set_cons_succ]
            refine wpHeld_skip rfl ?_
            simp only [Act.put, List.setIfInBounds_toArray, List.set_cons_zero, List.set_cons_succ]
            refine wpHeld_skip rfl ?_
            simp only [Act.put, List.setIfInBounds_toArray, List.set_cons_zero, List.set_cons_succ]
            refine wpHeld_skip rfl ?_
            simp only [Act.put, List.setIfInBounds_toArray, List.set_cons_zero, List.set_cons_succ]
            refine wpHeld_skip rfl ?_
            simp only [Act.put, List.setIfInBounds_toArray, List.set_cons_zero, List.set_cons_succ]
            refine wpHeld_skip rfl ?_
            simp only [Act.put, List.setIfInBounds_toArray, List.set_cons_zero, List.set_cons_succ]
            refine wpHeld_skip rfl ?_
            simp only [Act.put, List.setIfInBounds_toArray, List.set_cons_zero, List.set_cons_succ]
            refine wpHeld_cons (.bool false) rfl (fun w h => heldRun_value (by kernel_rfl) h) ?_
            simp only [Act.put, List.setIfInBounds_toArray, List.set_cons_zero, List.set_cons_succ]
            refine wpHeld_cons (.bool false) rfl (fun w h => heldRun_value (by kernel_rfl) h) ?_
            simp only [Act.put, List.setIfInBounds_toArray, List.set_cons_zero, List.set_cons_succ]
            refine wpHeld_cons (.bool false) rfl (fun w h => heldRun_value (by kernel_rfl) h) ?_
            simp only [Act.put, List.setIfInBounds_toArray, List.set_cons_zero, List.set_cons_succ]
            refine wpHeld_load 28 _ rfl rfl bg 0 rfl g'.cells _ (fun w h => range_blk h.2.1) Try.underlying28 rfl (sizeG _) ?_
            simp only [Act.put, List.setIfInBounds_toArray, List.set_cons_zero, List.set_cons_succ]
            refine wpHeld_cons (.pointer (some ⟨bg, 0, none⟩)) rfl (fun w h => heldRun_value (by kernel_rfl) h) ?_
            simp only [Act.put, List.setIfInBounds_toArray, List.set_cons_zero, List.set_cons_succ]
            refine wpHeld_cons (.int .i64 g'.o) rfl (fun w h => heldRun_value (run_load_one _ _ w 3 _ _ rfl bg 0 rfl (h.2.1.o) (by kernel_rfl)) h) ?_
            simp only [Act.put, List.setIfInBounds_toArray, List.set_cons_zero, List.set_cons_succ]
            refine wpHeld_cons (.int .u64 q) rfl (fun w h => heldRun_value (by kernel_rfl) h) ?_
            simp only [Act.put, List.setIfInBounds_toArray, List.set_cons_zero, List.set_cons_succ]
            refine wpHeld_call (.bool true) 9 #[.agg g'.cells.toArray, .int .i64 g'.o, .int .u64 q] rfl (fun w => by kernel_rfl) (fun w h => (KO.out w).mono (fun e w'' ⟨he, hb⟩ => ⟨he, h.step LE.out hb⟩)) ?_
            simp only [Act.put, List.setIfInBounds_toArray, List.set_cons_zero, List.set_cons_succ]
            refine wpHeld_cons (.bool false) rfl (fun w h => heldRun_value (by kernel_rfl) h) ?_
            simp only [Act.put, List.setIfInBounds_toArray, List.set_cons_zero, List.set_cons_succ]
            refine wpHeld_nil ?_
            intro w5 S5
            have HS5 := Lib.hid S5
            clear S5 hS
            go_wp2_with fail
            go_roundw
            case rel => exact ⟨k + 1, by omega, by go_num, Lib.hid ⟨g', HI'.out, by have := SV.out; have := S0.out; omega, by have := SV.out; have := S1.out; omega, HS5.out.2.1, HS5.out.1⟩⟩
            case measure => simp [intOf]; omega
          · skip
            refine region_held (SS bg bs B w g' wri 3 mb cut) 35 (by kernel_rfl) (by kernel_rfl) hS ?_
            simp only [List.take_succ_cons, List.take_zero, List.drop_succ_cons, List.drop_zero]
            refine wpHeld_cons (.pointer (some ⟨bs, 1, none⟩)) rfl (fun w h => heldRun_value (by kernel_rfl) h) ?_
            simp only [Act.put, List.setIfInBounds_toArray, List.set_cons_zero, List.set_cons_succ]
            refine wpHeld_cons (.int .i64 3) rfl (fun w h => heldRun_value (run_load_one _ _ w 3 _ _ rfl bs 1 rfl (h.2.2.cell 1) (by kernel_rfl)) h) ?_
            simp only [Act.put, List.setIfInBounds_toArray, List.set_cons_zero, List.set_cons_succ]
            refine wpHeld_cons (.bool true) rfl (fun w h => heldRun_value (by kernel_rfl) h) ?_
            simp only [Act.put, List.setIfInBounds_toArray, List.set_cons_zero, List.set_cons_succ]
            refine wpHeld_cons (.bool true) rfl (fun w h => heldRun_value (by kernel_rfl) h) ?_
            simp only [Act.put, List.setIfInBounds_toArray, List.set_cons_zero, List.set_cons_succ]
            refine wpHeld_load 28 _ rfl rfl bg 0 rfl g'.cells _ (fun w h => range_blk h.2.1) Try.underlying28 rfl (sizeG _) ?_
            simp only [Act.put, List.setIfInBounds_toArray, List.set_cons_zero, List.set_cons_succ]
            refine wpHeld_cons (.pointer (some ⟨bs, 2, none⟩)) rfl (fun w h => heldRun_value (by kernel_rfl) h) ?_
            simp only [Act.put, List.setIfInBounds_toArray, List.set_cons_zero, List.set_cons_succ]
            refine wpHeld_cons (.int .i64 mb) rfl (fun w h => heldRun_value (run_load_one _ _ w 3 _ _ rfl bs 2 rfl (h.2.2.cell 2) (by kernel_rfl)) h) ?_
            simp only [Act.put, List.setIfInBounds_toArray, List.set_cons_zero, List.set_cons_succ]
            refine wpHeld_cons (.int .u64 q) rfl (fun w h => heldRun_value (by kernel_rfl) h) ?_
            simp only [Act.put, List.setIfInBounds_toArray, List.set_cons_zero, List.set_cons_succ]
            refine wpHeld_call (.bool true) 9 #[.agg g'.cells.toArray, .int .i64 mb, .int .u64 q] rfl (fun w => by kernel_rfl) (fun w h => (KC.out w).mono (fun e w'' ⟨he, hb⟩ => ⟨he, h.step LE.out hb⟩)) ?_
            simp only [Act.put, List.setIfInBounds_toArray, List.set_cons_zero, List.set_cons_succ]
            refine wpHeld_cons (.int .u64 q) rfl (fun w h => heldRun_value (by kernel_rfl) h) ?_
            simp only [Act.put, List.setIfInBounds_toArray, List.set_cons_zero, List.set_cons_succ]
            refine wpHeld_cons (.pointer (some ⟨bs, 3, none⟩)) rfl (fun w h => heldRun_value (by kernel_rfl) h) ?_
            simp only [Act.put, List.setIfInBounds_toArray, List.set_cons_zero, List.set_cons_succ]
            refine wpHeld_cons (.int .u64 cut) rfl (fun w h => heldRun_value (run_load_one _ _ w 23 _ _ rfl bs 3 rfl (h.2.2.cell 3) (by kernel_rfl)) h) ?_
            simp only [Act.put, List.setIfInBounds_toArray, List.set_cons_zero, List.set_cons_succ]
            refine wpHeld_cons (.bool true) rfl (fun w h => heldRun_value (by rw [← HX.out]; kernel_rfl) h) ?_
            simp only [Act.put, List.setIfInBounds_toArray, List.set_cons_zero, List.set_cons_succ]
            refine wpHeld_cons (.bool false) rfl (fun w h => heldRun_value (by kernel_rfl) h) ?_
            simp only [Act.put, List.setIfInBounds_toArray, List.set_cons_zero, List.set_cons_succ]
            refine wpHeld_cons (.bool false) rfl (fun w h => heldRun_value (by kernel_rfl) h) ?_
            simp only [Act.put, List.setIfInBounds_toArray, List.set_cons_zero, List.set_cons_succ]
            refine wpHeld_cons (.bool false) rfl (fun w h => heldRun_value (by kernel_rfl) h) ?_
            simp only [Act.put, List.setIfInBounds_toArray, List.set_cons_zero, List.set_cons_succ]
            refine wpHeld_cons (.pointer (some ⟨bs, 1, none⟩)) rfl (fun w h => heldRun_value (by kernel_rfl) h) ?_
            simp only [Act.put, List.setIfInBounds_toArray, List.set_cons_zero, List.set_cons_succ]
            refine wpHeld_cons (.int .i64 3) rfl (fun w h => heldRun_value (run_load_one _ _ w 3 _ _ rfl bs 1 rfl (h.2.2.cell 1) (by kernel_rfl)) h) ?_
            simp only [Act.put, List.setIfInBounds_toArray, List.set_cons_zero, List.set_cons_succ]
            refine wpHeld_cons (.bool false) rfl (fun w h => heldRun_value (by kernel_rfl) h) ?_
            simp only [Act.put, List.setIfInBounds_toArray, List.set_cons_zero, List.set_cons_succ]
            refine wpHeld_cons (.bool false) rfl (fun w h => heldRun_value (by kernel_rfl) h) ?_
            simp only [Act.put, List.setIfInBounds_toArray, List.set_cons_zero, List.set_cons_succ]
            refine wpHeld_skip rfl ?_
            simp only [Act.put, List.setIfInBounds_toArray, List.set_cons_zero, List.set_cons_succ]
            refine wpHeld_skip rfl ?_
            simp only [Act.put, List.setIfInBounds_toArray, List.set_cons_zero, List.set_cons_succ]
            refine wpHeld_skip rfl ?_
            simp only [Act.put, List.setIfInBounds_toArray, List.set_cons_zero, List.set_cons_succ]
            refine wpHeld_skip rfl ?_
            simp only [Act.put, List.setIfInBounds_toArray, List.set_cons_zero, List.set_cons_succ]
            refine wpHeld_skip rfl ?_
            simp only [Act.put, List.setIfInBounds_toArray, List.set_cons_zero, List.set_cons_succ]
            refine wpHeld_skip rfl ?_
            simp only [Act.put, List.setIfInBounds_toArray, List.set_cons_zero, List.set_cons_succ]
            refine wpHeld_cons (.bool false) rfl (fun w h => heldRun_value (by kernel_rfl) h) ?_
            simp only [Act.put, List.setIfInBounds_toArray, List.set_cons_zero, List.set_cons_succ]
            refine wpHeld_cons (.bool false) rfl (fun w h => heldRun_value (by kernel_rfl) h) ?_
            simp only [Act.put, List.setIfInBounds_toArray, List.set_cons_zero, List.set_cons_succ]
            refine wpHeld_cons (.bool false) rfl (fun w h => heldRun_value (by kernel_rfl) h) ?_
            simp only [Act.put, List.setIfInBounds_toArray, List.set_cons_zero, List.set_cons_succ]
            refine wpHeld_load 28 _ rfl rfl bg 0 rfl g'.cells _ (fun w h => range_blk h.2.1) Try.underlying28 rfl (sizeG _) ?_
            simp only [Act.put, List.setIfInBounds_toArray, List.set_cons_zero, List.set_cons_succ]
            refine wpHeld_cons (.pointer (some ⟨bg, 0, none⟩)) rfl (fun w h => heldRun_value (by kernel_rfl) h) ?_
            simp only [Act.put, List.setIfInBounds_toArray, List.set_cons_zero, List.set_cons_succ]
            refine wpHeld_cons (.int .i64 g'.o) rfl (fun w h => heldRun_value (run_load_one _ _ w 3 _ _ rfl bg 0 rfl (h.2.1.o) (by kernel_rfl)) h) ?_
            simp only [Act.put, List.setIfInBounds_toArray, List.set_cons_zero, List.set_cons_succ]
            refine wpHeld_cons (.int .u64 q) rfl (fun w h => heldRun_value (by kernel_rfl) h) ?_
            simp only [Act.put, List.setIfInBounds_toArray, List.set_cons_zero, List.set_cons_succ]
            refine wpHeld_call (.bool true) 9 #[.agg g'.cells.toArray, .int .i64 g'.o, .int .u64 q] rfl (fun w => by kernel_rfl) (fun w h => (KO.out w).mono (fun e w'' ⟨he, hb⟩ => ⟨he, h.step LE.out hb⟩)) ?_
            simp only [Act.put, List.setIfInBounds_toArray, List.set_cons_zero, List.set_cons_succ]
            refine wpHeld_cons (.bool false) rfl (fun w h => heldRun_value (by kernel_rfl) h) ?_
            simp only [Act.put, List.setIfInBounds_toArray, List.set_cons_zero, List.set_cons_succ]
            refine wpHeld_nil ?_
            intro w5 S5
            have HS5 := Lib.hid S5
            clear S5 hS
            go_wp2_with fail
            go_roundw
            case rel => exact ⟨k + 1, by omega, by go_num, Lib.hid ⟨g', HI'.out, by have := SV.out; have := S0.out; omega, by have := SV.out; have := S1.out; omega, HS5.out.2.1, HS5.out.1⟩⟩
            case measure => simp [intOf]; omega
        · clear hadd hrem
          refine region_held (SS bg bs B w g' wri 4 mb cut) 35 (by kernel_rfl) (by kernel_rfl) hS ?_
          simp only [List.take_succ_cons, List.take_zero, List.drop_succ_cons, List.drop_zero]
          refine wpHeld_cons (.pointer (some ⟨bs, 1, none⟩)) rfl (fun w h => heldRun_value (by kernel_rfl) h) ?_
          simp only [Act.put, List.setIfInBounds_toArray, List.set_cons_zero, List.set_cons_succ]
          refine wpHeld_cons (.int .i64 4) rfl (fun w h => heldRun_value (run_load_one _ _ w 3 _ _ rfl bs 1 rfl (h.2.2.cell 1) (by kernel_rfl)) h) ?_
          simp only [Act.put, List.setIfInBounds_toArray, List.set_cons_zero, List.set_cons_succ]
          refine wpHeld_cons (.bool false) rfl (fun w h => heldRun_value (by kernel_rfl) h) ?_
          simp only [Act.put, List.setIfInBounds_toArray, List.set_cons_zero, List.set_cons_succ]
          refine wpHeld_cons (.bool false) rfl (fun w h => heldRun_value (by kernel_rfl) h) ?_
          simp only [Act.put, List.setIfInBounds_toArray, List.set_cons_zero, List.set_cons_succ]
          refine wpHeld_skip rfl ?_
          simp only [Act.put, List.setIfInBounds_toArray, List.set_cons_zero, List.set_cons_succ]
          refine wpHeld_skip rfl ?_
          simp only [Act.put, List.setIfInBounds_toArray, List.set_cons_zero, List.set_cons_succ]
          refine wpHeld_skip rfl ?_
          simp only [Act.put, List.setIfInBounds_toArray, List.set_cons_zero, List.set_cons_succ]
          refine wpHeld_skip rfl ?_
          simp only [Act.put, List.setIfInBounds_toArray, List.set_cons_zero, List.set_cons_succ]
          refine wpHeld_skip rfl ?_
          simp only [Act.put, List.setIfInBounds_toArray, List.set_cons_zero, List.set_cons_succ]
          refine wpHeld_skip rfl ?_
          simp only [Act.put, List.setIfInBounds_toArray, List.set_cons_zero, List.set_cons_succ]
          refine wpHeld_skip rfl ?_
          simp only [Act.put, List.setIfInBounds_toArray, List.set_cons_zero, List.set_cons_succ]
          refine wpHeld_skip rfl ?_
          simp only [Act.put, List.setIfInBounds_toArray, List.set_cons_zero, List.set_cons_succ]
          refine wpHeld_skip rfl ?_
          simp only [Act.put, List.setIfInBounds_toArray, List.set_cons_zero, List.set_cons_succ]
          refine wpHeld_skip rfl ?_
          simp only [Act.put, List.setIfInBounds_toArray, List.set_cons_zero, List.set_cons_succ]
          refine wpHeld_cons (.bool false) rfl (fun w h => heldRun_value (by kernel_rfl) h) ?_
          simp only [Act.put, List.setIfInBounds_toArray, List.set_cons_zero, List.set_cons_succ]
          refine wpHeld_cons (.bool false) rfl (fun w h => heldRun_value (by kernel_rfl) h) ?_
          simp only [Act.put, List.setIfInBounds_toArray, List.set_cons_zero, List.set_cons_succ]
          refine wpHeld_cons (.pointer (some ⟨bs, 1, none⟩)) rfl (fun w h => heldRun_value (by kernel_rfl) h) ?_
          simp only [Act.put, List.setIfInBounds_toArray, List.set_cons_zero, List.set_cons_succ]
          refine wpHeld_cons (.int .i64 4) rfl (fun w h => heldRun_value (run_load_one _ _ w 3 _ _ rfl bs 1 rfl (h.2.2.cell 1) (by kernel_rfl)) h) ?_
          simp only [Act.put, List.setIfInBounds_toArray, List.set_cons_zero, List.set_cons_succ]
          refine wpHeld_cons (.bool false) rfl (fun w h => heldRun_value (by kernel_rfl) h) ?_
          simp only [Act.put, List.setIfInBounds_toArray, List.set_cons_zero, List.set_cons_succ]
          refine wpHeld_cons (.bool false) rfl (fun w h => heldRun_value (by kernel_rfl) h) ?_
          simp only [Act.put, List.setIfInBounds_toArray, List.set_cons_zero, List.set_cons_succ]
          refine wpHeld_skip rfl ?_
          simp only [Act.put, List.setIfInBounds_toArray, List.set_cons_zero, List.set_cons_succ]
          refine wpHeld_skip rfl ?_
          simp only [Act.put, List.setIfInBounds_toArray, List.set_cons_zero, List.set_cons_succ]
          refine wpHeld_skip rfl ?_
          simp only [Act.put, List.setIfInBounds_toArray, List.set_cons_zero, List.set_cons_succ]
          refine wpHeld_skip rfl ?_
          simp only [Act.put, List.setIfInBounds_toArray, List.set_cons_zero, List.set_cons_succ]
          refine wpHeld_skip rfl ?_
          simp only [Act.put, List.setIfInBounds_toArray, List.set_cons_zero, List.set_cons_succ]
          refine wpHeld_skip rfl ?_
          simp only [Act.put, List.setIfInBounds_toArray, List.set_cons_zero, List.set_cons_succ]
          refine wpHeld_cons (.bool false) rfl (fun w h => heldRun_value (by kernel_rfl) h) ?_
          simp only [Act.put, List.setIfInBounds_toArray, List.set_cons_zero, List.set_cons_succ]
          refine wpHeld_cons (.bool false) rfl (fun w h => heldRun_value (by kernel_rfl) h) ?_
          simp only [Act.put, List.setIfInBounds_toArray, List.set_cons_zero, List.set_cons_succ]
          refine wpHeld_cons (.bool false) rfl (fun w h => heldRun_value (by kernel_rfl) h) ?_
          simp only [Act.put, List.setIfInBounds_toArray, List.set_cons_zero, List.set_cons_succ]
          refine wpHeld_load 28 _ rfl rfl bg 0 rfl g'.cells _ (fun w h => range_blk h.2.1) Try.underlying28 rfl (sizeG _) ?_
          simp only [Act.put, List.setIfInBounds_toArray, List.set_cons_zero, List.set_cons_succ]
          refine wpHeld_cons (.pointer (some ⟨bg, 0, none⟩)) rfl (fun w h => heldRun_value (by kernel_rfl) h) ?_
          simp only [Act.put, List.setIfInBounds_toArray, List.set_cons_zero, List.set_cons_succ]
          refine wpHeld_cons (.int .i64 g'.o) rfl (fun w h => heldRun_value (run_load_one _ _ w 3 _ _ rfl bg 0 rfl (h.2.1.o) (by kernel_rfl)) h) ?_
          simp only [Act.put, List.setIfInBounds_toArray, List.set_cons_zero, List.set_cons_succ]
          refine wpHeld_cons (.int .u64 q) rfl (fun w h => heldRun_value (by kernel_rfl) h) ?_
          simp only [Act.put, List.setIfInBounds_toArray, List.set_cons_zero, List.set_cons_succ]
          refine wpHeld_call (.bool true) 9 #[.agg g'.cells.toArray, .int .i64 g'.o, .int .u64 q] rfl (fun w => by kernel_rfl) (fun w h => (KO.out w).mono (fun e w'' ⟨he, hb⟩ => ⟨he, h.step LE.out hb⟩)) ?_
          simp only [Act.put, List.setIfInBounds_toArray, List.set_cons_zero, List.set_cons_succ]
          refine wpHeld_cons (.bool false) rfl (fun w h => heldRun_value (by kernel_rfl) h) ?_
          simp only [Act.put, List.setIfInBounds_toArray, List.set_cons_zero, List.set_cons_succ]
          refine wpHeld_nil ?_
          intro w5 S5
          have HS5 := Lib.hid S5
          clear S5 hS
          go_wp2_with fail
          go_roundw
          case rel => exact ⟨k + 1, by omega, by go_num, Lib.hid ⟨g', HI'.out, by have := SV.out; have := S0.out; omega, by have := SV.out; have := S1.out; omega, HS5.out.2.1, HS5.out.1⟩⟩
          case measure => simp [intOf]; omega
        · clear hadd hrem
          refine region_held (SS bg bs B w g' wri 5 mb cut) 35 (by kernel_rfl) (by kernel_rfl) hS ?_
          simp only [List.take_succ_cons, List.take_zero, List.drop_succ_cons, List.drop_zero]
          refine wpHeld_cons (.pointer (some ⟨bs, 1, none⟩)) rfl (fun w h => heldRun_value (by kernel_rfl) h) ?_
          simp only [Act.put, List.setIfInBounds_toArray, List.set_cons_zero, List.set_cons_succ]
          refine wpHeld_cons (.int .i64 5) rfl (fun w h => heldRun_value (run_load_one _ _ w 3 _ _ rfl bs 1 rfl (h.2.2.cell 1) (by kernel_rfl)) h) ?_
          simp only [Act.put, List.setIfInBounds_toArray, List.set_cons_zero, List.set_cons_succ]
          refine wpHeld_cons (.bool false) rfl (fun w h => heldRun_value (by kernel_rfl) h) ?_
          simp only [Act.put, List.setIfInBounds_toArray, List.set_cons_zero, List.set_cons_succ]
          refine wpHeld_cons (.bool false) rfl (fun w h => heldRun_value (by kernel_rfl) h) ?_
          simp only [Act.put, List.setIfInBounds_toArray, List.set_cons_zero, List.set_cons_succ]
          refine wpHeld_skip rfl ?_
          simp only [Act.put, List.setIfInBounds_toArray, List.set_cons_zero, List.set_cons_succ]
          refine wpHeld_skip rfl ?_
          simp only [Act.put, List.setIfInBounds_toArray, List.set_cons_zero, List.set_cons_succ]
          refine wpHeld_skip rfl ?_
          simp only [Act.put, List.setIfInBounds_toArray, List.set_cons_zero, List.set_cons_succ]
          refine wpHeld_skip rfl ?_
          simp only [Act.put, List.setIfInBounds_toArray, List.set_cons_zero, List.set_cons_succ]
          refine wpHeld_skip rfl ?_
          simp only [Act.put, List.setIfInBounds_toArray, List.set_cons_zero, List.set_cons_succ]
          refine wpHeld_skip rfl ?_
          simp only [Act.put, List.setIfInBounds_toArray, List.set_cons_zero, List.set_cons_succ]
          refine wpHeld_skip rfl ?_
          simp only [Act.put, List.setIfInBounds_toArray, List.set_cons_zero, List.set_cons_succ]
          refine wpHeld_skip rfl ?_
          simp only [Act.put, List.setIfInBounds_toArray, List.set_cons_zero, List.set_cons_succ]
          refine wpHeld_skip rfl ?_
          simp only [Act.put, List.setIfInBounds_toArray, List.set_cons_zero, List.set_cons_succ]
          refine wpHeld_skip rfl ?_
          simp only [Act.put, List.setIfInBounds_toArray, List.set_cons_zero, List.set_cons_succ]
          refine wpHeld_cons (.bool false) rfl (fun w h => heldRun_value (by kernel_rfl) h) ?_
          simp only [Act.put, List.setIfInBounds_toArray, List.set_cons_zero, List.set_cons_succ]
          refine wpHeld_cons (.bool false) rfl (fun w h => heldRun_value (by kernel_rfl) h) ?_
          simp only [Act.put, List.setIfInBounds_toArray, List.set_cons_zero, List.set_cons_succ]
          refine wpHeld_cons (.pointer (some ⟨bs, 1, none⟩)) rfl (fun w h => heldRun_value (by kernel_rfl) h) ?_
          simp only [Act.put, List.setIfInBounds_toArray, List.set_cons_zero, List.set_cons_succ]
          refine wpHeld_cons (.int .i64 5) rfl (fun w h => heldRun_value (run_load_one _ _ w 3 _ _ rfl bs 1 rfl (h.2.2.cell 1) (by kernel_rfl)) h) ?_
          simp only [Act.put, List.setIfInBounds_toArray, List.set_cons_zero, List.set_cons_succ]
          refine wpHeld_cons (.bool false) rfl (fun w h => heldRun_value (by kernel_rfl) h) ?_
          simp only [Act.put, List.setIfInBounds_toArray, List.set_cons_zero, List.set_cons_succ]
          refine wpHeld_cons (.bool false) rfl (fun w h => heldRun_value (by kernel_rfl) h) ?_
          simp only [Act.put, List.setIfInBounds_toArray, List.set_cons_zero, List.set_cons_succ]
          refine wpHeld_skip rfl ?_
          simp only [Act.put, List.setIfInBounds_toArray, List.set_cons_zero, List.set_cons_succ]
          refine wpHeld_skip rfl ?_
          simp only [Act.put, List.setIfInBounds_toArray, List.set_cons_zero, List.set_cons_succ]
          refine wpHeld_skip rfl ?_
          simp only [Act.put, List.setIfInBounds_toArray, List.set_cons_zero, List.set_cons_succ]
          refine wpHeld_skip rfl ?_
          simp only [Act.put, List.setIfInBounds_toArray, List.set_cons_zero, List.set_cons_succ]
          refine wpHeld_skip rfl ?_
          simp only [Act.put, List.setIfInBounds_toArray, List.set_cons_zero, List.set_cons_succ]
          refine wpHeld_skip rfl ?_
          simp only [Act.put, List.setIfInBounds_toArray, List.set_cons_zero, List.set_cons_succ]
          refine wpHeld_cons (.bool false) rfl (fun w h => heldRun_value (by kernel_rfl) h) ?_
          simp only [Act.put, List.setIfInBounds_toArray, List.set_cons_zero, List.set_cons_succ]
          refine wpHeld_cons (.bool false) rfl (fun w h => heldRun_value (by kernel_rfl) h) ?_
          simp only [Act.put, List.setIfInBounds_toArray, List.set_cons_zero, List.set_cons_succ]
          refine wpHeld_cons (.bool false) rfl (fun w h => heldRun_value (by kernel_rfl) h) ?_
          simp only [Act.put, List.setIfInBounds_toArray, List.set_cons_zero, List.set_cons_succ]
          refine wpHeld_load 28 _ rfl rfl bg 0 rfl g'.cells _ (fun w h => range_blk h.2.1) Try.underlying28 rfl (sizeG _) ?_
          simp only [Act.put, List.setIfInBounds_toArray, List.set_cons_zero, List.set_cons_succ]
          refine wpHeld_cons (.pointer (some ⟨bg, 0, none⟩)) rfl (fun w h => heldRun_value (by kernel_rfl) h) ?_
          simp only [Act.put, List.setIfInBounds_toArray, List.set_cons_zero, List.set_cons_succ]
          refine wpHeld_cons (.int .i64 g'.o) rfl (fun w h => heldRun_value (run_load_one _ _ w 3 _ _ rfl bg 0 rfl (h.2.1.o) (by kernel_rfl)) h) ?_
          simp only [Act.put, List.setIfInBounds_toArray, List.set_cons_zero, List.set_cons_succ]
          refine wpHeld_cons (.int .u64 q) rfl (fun w h => heldRun_value (by kernel_rfl) h) ?_
          simp only [Act.put, List.setIfInBounds_toArray, List.set_cons_zero, List.set_cons_succ]
          refine wpHeld_call (.bool true) 9 #[.agg g'.cells.toArray, .int .i64 g'.o, .int .u64 q] rfl (fun w => by kernel_rfl) (fun w h => (KO.out w).mono (fun e w'' ⟨he, hb⟩ => ⟨he, h.step LE.out hb⟩)) ?_
          simp only [Act.put, List.setIfInBounds_toArray, List.set_cons_zero, List.set_cons_succ]
          refine wpHeld_cons (.bool false) rfl (fun w h => heldRun_value (by kernel_rfl) h) ?_
          simp only [Act.put, List.setIfInBounds_toArray, List.set_cons_zero, List.set_cons_succ]
          refine wpHeld_nil ?_
          intro w5 S5
          have HS5 := Lib.hid S5
          clear S5 hS
          go_wp2_with fail
          go_roundw
          case rel => exact ⟨k + 1, by omega, by go_num, Lib.hid ⟨g', HI'.out, by have := SV.out; have := S0.out; omega, by have := SV.out; have := S1.out; omega, HS5.out.2.1, HS5.out.1⟩⟩
          case measure => simp [intOf]; omega
      · have hm' : (mayI g wri op mb != 0) = true := by simpa using hm
        clear hm
        go_wp2
        go_roundw
        case rel => exact ⟨k + 1, by omega, by go_num, Lib.hid ⟨g, HI.out, S0.out, by have := S1.out; omega, HG.out, BW.out⟩⟩
        case measure => simp [intOf]; omega
    · have hge : len ≤ k := by omega
      obtain rfl : k = len := by have := HLK.out; omega
      have hB2 := RI.out
      obtain ⟨_, _, _, _, _, hbw⟩ := hB2
      have BW := Lib.hid hbw
      clear hbw RI hge hk hlt
      go_wp2
      go_ret
      exact ⟨rfl, by rw [EB.out]; exact BW.out⟩
end Go.Proofs.Ytdhpgadhdgpbdaa
