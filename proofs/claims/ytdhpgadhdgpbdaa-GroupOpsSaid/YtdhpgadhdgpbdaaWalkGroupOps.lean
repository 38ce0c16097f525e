import Derived.Test.YtdhpgadhdgpbdaaG16
namespace Go.Proofs.Ytdhpgadhdgpbdaa
open Go.RowKit

theorem ops_long (a : Option Addr) (len cap : Nat) (q : Int) (w : World) (hlen : 60 < len) (hm : len ≤ maxLen) :
    Calls Try.prog 4 #[.slice a len cap, .int .u64 q] w fun e w' => e = .returned (.bool true) ∧ Below w.heap.size w w' := by
  have hl : (60 : Int) < (len : Int) := by omega
  unfold maxLen at hm
  go_enter Try.func4, Try.ntmps4
  go_wp2_with fail
  refine (awake_any _).mono ?_
  rintro e w1 ⟨rfl, hb⟩
  have HB := Lib.hid hb
  clear hb
  go_wp2_with fail
  refine (awake_any _).mono ?_
  rintro e w2 ⟨rfl, hb2⟩
  have B2 : Hid (Below w.heap.size w w2) := Lib.hid (HB.out.trans (hb2.mono HB.out.size))
  clear hb2 HB
  go_wp2_with fail
  go_ret
  exact ⟨rfl, B2.out⟩
set_option maxRecDepth 100000 in
set_option maxHeartbeats 8000000 in
theorem ops_none (a : Option Addr) (cap : Nat) (q : Int) (w : World) :
    Calls Try.prog 4 #[.slice a 0 cap, .int .u64 q] w fun e w' => e = .returned (.bool true) ∧ Below w.heap.size w w' := by
  go_enter Try.func4, Try.ntmps4
  go_wp2_with (go_at_call 6; refine (awake_any _).mono ?_; rintro e w1 ⟨rfl, hb⟩)
  obtain ⟨W, hW⟩ : ∃ V, V = w1.alloc (.cells #[.int .i64 0, .int .i64 0, .bool false, .bool false, .bool false, .bool false, .bool false, .bool false, .bool false, .bool false, .bool false, .bool false, .bool false, .bool false, .int .u64 0, .int .u64 0, .int .u64 0, .int .u64 0, .int .u64 0, .int .u64 0, .int .i64 0] 28) := ⟨_, rfl⟩
  rw [← hW]
  have hg0 : IsG W w1.heap.size zg := by rw [hW]; exact Blk.new _ _ _
  have hR : Rd w1.heap.size w.heap.size w 0 W := ⟨zg, inv_zero, by decide, by decide, hg0, by rw [hW]; exact hb.alloc hb.size _⟩
  have HR := Lib.hid hR
  have HS : Hid (w.heap.size ≤ w1.heap.size) := Lib.hid hb.size
  clear hR hg0 hW hb
  generalize w1.heap.size = bg at *
  generalize hB : w.heap.size = B at *
  have EB := Lib.hid hB
  have LE : Hid (B ≤ w.heap.size) := Lib.hid (by omega)
  clear hB
  have hB2 := HR.out
  obtain ⟨g, _, _, _, hg, hbw⟩ := hB2
  have HSG : Hid (SG bg B w g W) := Lib.hid ⟨hbw, hg⟩
  clear hbw hg HR
  refine wp_loop_rounds 1 ?_
  rw [rounds_succ]
  go_wp2
  go_loopw [10] (fun s10 wr => ∃ n : Int, -1 ≤ n ∧ n ≤ 9 ∧ s10 = .int .i64 n ∧ Hid (SG bg B w g wr)) (fun s10 _ => (9 - intOf s10).toNat)
  case atStart => exact ⟨-1, by omega, by omega, rfl, HSG⟩
  case round =>
    clear HSG
    obtain ⟨n, n0, n9, rfl, RJ⟩ := hrel
    by_cases h8 : n ≤ 8
    · by_cases hin : 1 ≤ n ∧ n ≤ 6
      · obtain ⟨j, hj, rfl⟩ : ∃ j : Nat, j < 6 ∧ n = (j : Int) + 1 := ⟨(n - 1).toNat, by omega, by omega⟩
        obtain ⟨l1, l6⟩ := hin
        have HJ := Lib.hid hj
        have j0 : (0 : Int) ≤ (j : Int) := by omega
        have j6 : (j : Int) < 6 := by omega
        have KI := Lib.hid (is_yes (g := g) (k := j) (hk := hj))
        have KC := Lib.hid (countB (g := g) (k := j) (hk := hj) (q := q))
        have cm := RJ.out.2.cm j hj
        have cg := RJ.out.2.cg j hj
        have cc := RJ.out.2.cc j hj
        clear hj n0 n9
        generalize g.M j = m at KI KC cm
        generalize g.G j = l at KC cg
        generalize g.C j = c at KC cc
        cases m <;> cases l
        all_goals
          go_upto_region 20 with (fail)
          clear cm cg cc
          have HG : Hid (IsG wr bg g) := Lib.hid RJ.out.2
          go_wp2_with (refine wpL_load 28 _ rfl (by rfl) bg 0 rfl g.cells _ (range_blk HG.out) Try.underlying28 rfl (sizeG _) ?_)
          refine (KI.out _).mono ?_
          rintro e w6 ⟨rfl, hb6⟩
          have S6 : Hid (SG bg B w g w6) := Lib.hid (SG.step RJ.out LE.out hb6)
          replace HG : Hid (IsG w6 bg g) := Lib.hid S6.out.2
          clear hb6
          go_wp2_with (refine wpL_load 28 _ rfl (by rfl) bg 0 rfl g.cells _ (range_blk HG.out) Try.underlying28 rfl (sizeG _) ?_)
          refine (KC.out _).mono ?_
          rintro e w7 ⟨rfl, hb7⟩
          have S7 : Hid (SG bg B w g w7) := Lib.hid (SG.step S6.out LE.out hb7)
          clear hb7 HG
          simp only [Bool.false_or, Bool.true_or, Bool.false_and, Bool.true_and]
          go_wp2_with fail
          go_roundw
          case rel => exact ⟨(j : Int) + 1 + 1, by omega, by omega, by go_num, S7⟩
          case measure => simp [intOf]; omega
      · have hkn : knownB n = false := by unfold knownB; simpa using hin
        have KI := Lib.hid (is_no (g := g) (x := n) (hx := hkn))
        have KC := Lib.hid (count_no (g := g) (x := n) (hx := hkn) (q := q))
        clear hkn
        have HG : Hid (IsG wr bg g) := Lib.hid RJ.out.2
        by_cases h1 : 1 ≤ n
        · have h6 : decide (n ≤ 6) = false := by simp; omega
          clear hin
          go_upto_region 20 with (fail)
          go_wp2_with (refine wpL_load 28 _ rfl (by rfl) bg 0 rfl g.cells _ (range_blk HG.out) Try.underlying28 rfl (sizeG _) ?_)
          refine (KI.out _).mono ?_
          rintro e w6 ⟨rfl, hb6⟩
          have S6 : Hid (SG bg B w g w6) := Lib.hid (SG.step RJ.out LE.out hb6)
          replace HG : Hid (IsG w6 bg g) := Lib.hid S6.out.2
          clear hb6
          go_wp2_with (refine wpL_load 28 _ rfl (by rfl) bg 0 rfl g.cells _ (range_blk HG.out) Try.underlying28 rfl (sizeG _) ?_)
          refine (KC.out _).mono ?_
          rintro e w7 ⟨rfl, hb7⟩
          have S7 : Hid (SG bg B w g w7) := Lib.hid (SG.step S6.out LE.out hb7)
          clear hb7 HG
          go_wp2_with fail
          go_roundw
          case rel => exact ⟨n + 1, by omega, by omega, by go_num, S7⟩
          case measure => simp [intOf]; omega
        · have h1' : decide (1 ≤ n) = false := by simpa using h1
          clear hin
          go_upto_region 20 with (fail)
          go_wp2_with (refine wpL_load 28 _ rfl (by rfl) bg 0 rfl g.cells _ (range_blk HG.out) Try.underlying28 rfl (sizeG _) ?_)
          refine (KI.out _).mono ?_
          rintro e w6 ⟨rfl, hb6⟩
          have S6 : Hid (SG bg B w g w6) := Lib.hid (SG.step RJ.out LE.out hb6)
          replace HG : Hid (IsG w6 bg g) := Lib.hid S6.out.2
          clear hb6
          go_wp2_with (refine wpL_load 28 _ rfl (by rfl) bg 0 rfl g.cells _ (range_blk HG.out) Try.underlying28 rfl (sizeG _) ?_)
          refine (KC.out _).mono ?_
          rintro e w7 ⟨rfl, hb7⟩
          have S7 : Hid (SG bg B w g w7) := Lib.hid (SG.step S6.out LE.out hb7)
          clear hb7 HG
          go_wp2_with fail
          go_roundw
          case rel => exact ⟨n + 1, by omega, by omega, by go_num, S7⟩
          case measure => simp [intOf]; omega
    · have h8' : decide (n ≤ 8) = false := by simpa using h8
      clear n0 n9 h8
      go_wp2
      go_ret
      exact ⟨rfl, by rw [EB.out]; exact RJ.out.1⟩
theorem walkGroupOps (a : Option Addr) (len cap : Nat) (q : Int) (wq : (Lit.int .u64 q).wf = true) (w : World) (hs : AreSteps w a len cap) :
    Calls Try.prog 4 #[.slice a len cap, .int .u64 q] w fun e w' => e = .returned (.bool true) ∧ Below w.heap.size w w' := by
  rcases hs with rfl | ⟨b, off, rfl, hl, hm, hst⟩
  · exact ops_none a cap q w
  · by_cases h60 : len ≤ 60
    · by_cases h0 : len = 0
      · subst h0; exact ops_none _ cap q w
      · exact walkOps b off len cap q w (by omega) hst h60
    · exact ops_long _ len cap q w (by omega) (by omega)
end Go.Proofs.Ytdhpgadhdgpbdaa
