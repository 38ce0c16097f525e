/- 'DiskFuses'. -/
import Derived.Test.YticjpjbmjnalhaaE6
import Derived.Test.YticjpjbmjnalhaaOpen
import Derived.OpenShut
namespace Go.Proofs.Yticjpjbmjnalhaa
open Go Go.RowKit
/-- the disk behind i writes, by a fuse of k. -/
def FS (w : World) (b gs gm k i : Nat) : Prop := ∃ L c S, DS w b gs gm 1 L c S true ((k - i : Nat) : Int) (decide (k < i))
theorem wrap_u8 (x : Int) (h0 : 0 ≤ x) (h1 : x ≤ 255) : IntKind.u8.wrap x = x := by simp [IntKind.wrap, IntKind.bits, IntKind.signed]; omega
theorem run_remu (a : Act) (o : Oper) (w : World) (x : Operand) (p q k : Nat) (ho : o.op = .binOp .rem 5 x (.const (.int .u8 (q : Int))) 5) (hx : a.eval x = .int .u8 (p : Int)) (hq : 0 < q) (hk : p % q = k) : (execOp a.eval o).run Try.prog w = .ok (.value (.int .u8 ((k : Nat) : Int))) w := by
  subst hk
  have hc : a.eval (.const (.int .u8 (q : Int))) = .int .u8 (q : Int) := rfl
  have h0 : (0 : Int) ≤ (p : Int) := by omega
  have h1 : (0 : Int) < (q : Int) := by omega
  have h2 : ((p : Int)).tmod (q : Int) = ((p % q : Nat) : Int) := by rw [Int.tmod_eq_emod_of_nonneg h0]; rfl
  unfold execOp
  simp only [ho, hx, hc]
  go_simp
  omega
theorem fuse_step {w0 w w' : World} {b gs gm k i c : Nat} {L : List (Int × List Int × Nat)} {S : List (List Int)} {xs : List Int} {e : Ending} (h : WPost b gs gm 1 c L S true (decide (k < i)) ((k - i : Nat) : Int) 0 64 xs w e w') (hb : Below w0.heap.size w0 w) (lb : w0.heap.size ≤ b ∧ w0.heap.size ≤ gs ∧ w0.heap.size ≤ gm) :
    ∃ v, e = .returned v ∧ FS w' b gs gm k (i + 1) ∧ Below w0.heap.size w0 w' ∧ v = .int .i64 (if i < k then 0 else 5) := by
  rcases h with ⟨h, _⟩ | ⟨_, hm, rfl, d, f⟩ | ⟨_, hm, rfl, kk, s, _, _, d, f⟩
  · exact absurd ⟨⟨by omega, by omega⟩, rfl⟩ h
  · have hik : ¬ i < k := by
      intro hlt
      have e1 : decide (k < i) = false := by simp; omega
      rw [e1] at hm
      simp [mayB] at hm
      omega
    refine ⟨_, rfl, ⟨L, c, S, ?_⟩, f.below hb lb.1 lb.2.1 lb.2.2, by rw [if_neg hik]⟩
    have e2 : decide (k < i + 1) = true := by simp; omega
    have e3 : mayF true ((k - i : Nat) : Int) (decide (k < i)) = ((k - (i + 1) : Nat) : Int) := by
      rw [mayF, hm]
      simp
      omega
    rw [e2, ← e3]
    exact d
  · have hik : i < k := by
      simp [mayB] at hm
      omega
    refine ⟨_, rfl, ⟨(wrL L c 0 s).1, (wrL L c 0 s).2, S.set kk xs, ?_⟩, f.below hb lb.1 lb.2.1 lb.2.2, by rw [if_pos hik]⟩
    have e2 : decide (k < i + 1) = false := by simp; omega
    have e3 : mayF true ((k - i : Nat) : Int) (decide (k < i)) = ((k - (i + 1) : Nat) : Int) := by
      rw [mayF, hm]
      simp
      omega
    rw [e2, ← e3]
    exact d
attribute [local irreducible] wpList
set_option maxHeartbeats 4000000 in
set_option maxRecDepth 100000 in
theorem fuses_any (nn mo : Nat) (hn : nn < 256) (hm : mo < 256) (w : World) : Calls Try.prog 7 #[.int .u8 ((nn : Nat) : Int), .int .u8 ((mo : Nat) : Int)] w fun e w' => e = .returned (.bool true) ∧ Below w.heap.size w w' := by
  obtain ⟨k, hk⟩ : ∃ k, nn % 40 = k := ⟨_, rfl⟩
  obtain ⟨r, hr⟩ : ∃ r, mo % 10 = r := ⟨_, rfl⟩
  have HK : Hid (nn % 40 = k ∧ k < 40) := Lib.hid ⟨hk, by omega⟩
  have HR : Hid (mo % 10 = r ∧ r < 10) := Lib.hid ⟨hr, by omega⟩
  clear hk hr hn hm
  go_enter Try.func7, Try.ntmps7
  go_upto_region 1 with (fail)
  refine wp_region_lit ?_
  refine wpL_call 8 #[.int .i64 1] rfl (by kernel_rfl) ((newD 1 (by omega) w).mono ?_)
  rintro e W1 ⟨b, gs, gm, rfl, d1, b1, l1, l2, l3⟩
  have F1 : Hid (DS W1 b gs gm 1 [] 0 (zs 1) false 0 false ∧ Below w.heap.size w W1) := Lib.hid ⟨d1, b1⟩
  have LB : Hid (w.heap.size ≤ b ∧ w.heap.size ≤ gs ∧ w.heap.size ≤ gm) := Lib.hid ⟨l1, l2, l3⟩
  clear d1 b1 l1 l2 l3
  refine ⟨_, rfl, ?_⟩
  simp only [Act.put, List.setIfInBounds_toArray, List.set_cons_zero, List.set_cons_succ]
  refine wpL_pure (.pointer (some ⟨b, 0, none⟩)) rfl (by kernel_rfl) ?_
  simp only [Act.put, List.setIfInBounds_toArray, List.set_cons_zero, List.set_cons_succ]
  unfold wpList
  go_upto_region 2 with (fail)
  refine wp_region_lit ?_
  refine wpL_call 9 #[] rfl (by kernel_rfl) (((awakeD W1)).mono fun e W2 ⟨he, ba⟩ => ⟨.bool true, he, ?_⟩)
  simp only [Act.put, List.setIfInBounds_toArray, List.set_cons_zero, List.set_cons_succ]
  have F2 : Hid (DS W2 b gs gm 1 [] 0 (zs 1) false 0 false ∧ Below w.heap.size w W2) := Lib.hid ⟨F1.out.1.below ba, F1.out.2.trans (ba.mono F1.out.2.size)⟩
  clear ba F1
  refine wpL_pure (.bool false) rfl (by kernel_rfl) ?_
  simp only [Act.put, List.setIfInBounds_toArray, List.set_cons_zero, List.set_cons_succ]
  go_upto_region 4 with (fail)
  refine wp_region_lit ?_
  refine wpL_pure (.int .u8 ((nn : Nat) : Int)) rfl (by kernel_rfl) ?_
  simp only [Act.put, List.setIfInBounds_toArray, List.set_cons_zero, List.set_cons_succ]
  refine wpL_pure (.int .u8 ((k : Nat) : Int)) rfl (run_remu _ _ _ _ nn 40 k rfl rfl (by decide) HK.out.1) ?_
  simp only [Act.put, List.setIfInBounds_toArray, List.set_cons_zero, List.set_cons_succ]
  refine wpL_pure (.int .i64 ((k : Nat) : Int)) rfl (run_convi Try.underlying5 Try.underlying3 rfl rfl _ (by have := HK.out.2; rw [wrap_in _ (by omega) (by omega)])) ?_
  simp only [Act.put, List.setIfInBounds_toArray, List.set_cons_zero, List.set_cons_succ]
  refine wpL_pure (.int .i64 ((k : Nat) : Int)) rfl (by kernel_rfl) ?_
  simp only [Act.put, List.setIfInBounds_toArray, List.set_cons_zero, List.set_cons_succ]
  go_upto_region 5 with (fail)
  refine wp_region_lit ?_
  refine zP (.pointer (some ⟨b, 0, none⟩)) ?_
  refine zP (.int .i64 (k : Int)) ?_
  refine wpL_call 21 #[.pointer (some ⟨b, 0, none⟩), .int .i64 (k : Int)] rfl (by kernel_rfl) ((fuseD F2.out.1 (k : Int) (by have := HK.out.2; omega)).mono ?_)
  rintro e W3 ⟨rfl, d3, f3⟩
  have F3 : Hid (DS W3 b gs gm 1 [] 0 (zs 1) true (k : Int) false ∧ Below w.heap.size w W3) := Lib.hid ⟨by rw [decide_eq_true (by omega : (0 : Int) ≤ (k : Int))] at d3; exact d3, f3.below F2.out.2 LB.out.1 LB.out.2.1 LB.out.2.2⟩
  clear d3 f3 F2
  refine ⟨_, rfl, ?_⟩
  simp only [Act.put, List.setIfInBounds_toArray, List.set_cons_zero, List.set_cons_succ]
  unfold wpList
  go_wp2_with fail
  go_loopw [7] (fun s7 wr => ∃ (i : Nat), s7 = .int .i64 (i : Int) ∧ Hid (i ≤ k + r ∧ FS wr b gs gm k i ∧ Below w.heap.size w wr)) (fun s7 _ => k + r - (intOf s7).toNat)
  case atStart => exact ⟨0, rfl, Lib.hid ⟨Nat.zero_le _, ⟨[], 0, zs 1, by simpa using F3.out.1⟩, F3.out.2⟩⟩
  case round =>
    obtain ⟨i, rfl, RI⟩ := hrel
    by_cases hlt : i < k + r
    · have HI := Lib.hid hlt
      clear hlt
      go_upto_region 7 with (fail)
      refine wp_region_lit ?_
      refine wpL_pure (.int .i64 (i : Int)) rfl (by kernel_rfl) ?_
      simp only [Act.put, List.setIfInBounds_toArray, List.set_cons_zero, List.set_cons_succ]
      refine wpL_pure (.int .i64 (k : Int)) rfl (by kernel_rfl) ?_
      simp only [Act.put, List.setIfInBounds_toArray, List.set_cons_zero, List.set_cons_succ]
      refine wpL_pure (.int .u8 ((mo : Nat) : Int)) rfl (by kernel_rfl) ?_
      simp only [Act.put, List.setIfInBounds_toArray, List.set_cons_zero, List.set_cons_succ]
      refine wpL_pure (.int .u8 ((r : Nat) : Int)) rfl (run_remu _ _ _ _ mo 10 r rfl rfl (by decide) HR.out.1) ?_
      simp only [Act.put, List.setIfInBounds_toArray, List.set_cons_zero, List.set_cons_succ]
      refine wpL_pure (.int .i64 ((r : Nat) : Int)) rfl (run_convi Try.underlying5 Try.underlying3 rfl rfl _ (by have := HR.out.2; rw [wrap_in _ (by omega) (by omega)])) ?_
      simp only [Act.put, List.setIfInBounds_toArray, List.set_cons_zero, List.set_cons_succ]
      refine wpL_pure (.int .i64 ((k + r : Nat) : Int)) rfl (run_addi Try.underlying3 rfl rfl rfl _ (by have := HK.out; have := HR.out; rw [wrap_in _ (by omega) (by omega)]; omega)) ?_
      simp only [Act.put, List.setIfInBounds_toArray, List.set_cons_zero, List.set_cons_succ]
      refine wpL_pure (.bool true) rfl (run_lti Try.underlying3 rfl rfl rfl (by have := HI.out; rw [decide_eq_true_eq]; omega)) ?_
      simp only [Act.put, List.setIfInBounds_toArray, List.set_cons_zero, List.set_cons_succ]
      obtain ⟨L, c, S, hds⟩ := RI.out.2.1
      have HD := Lib.hid hds
      clear hds
      go_upto_region 9 with (fail)
      refine wp_region_lit ?_
      refine wpL_pure (.pointer (some ⟨b, 0, none⟩)) rfl (by kernel_rfl) ?_
      simp only [Act.put, List.setIfInBounds_toArray, List.set_cons_zero, List.set_cons_succ]
      refine wpL_pure (.int .i64 (i : Int)) rfl (by kernel_rfl) ?_
      simp only [Act.put, List.setIfInBounds_toArray, List.set_cons_zero, List.set_cons_succ]
      refine wpL_pure (.int .u8 (i : Int)) rfl (run_convi Try.underlying3 Try.underlying5 rfl rfl _ (by have := HI.out; have := HK.out.2; have := HR.out.2; rw [wrap_u8 _ (by omega) (by omega)])) ?_
      simp only [Act.put, List.setIfInBounds_toArray, List.set_cons_zero, List.set_cons_succ]
      refine wpL_call 10 #[.int .u8 (i : Int), .slice none 0 0] rfl (by kernel_rfl) (((full_any wr (i : Int) (by have := HI.out; have := HK.out.2; have := HR.out.2; omega) none 0 0 [] (Row.nil _ _))).mono fun e w1 ⟨v, he, q1, q2⟩ => ⟨v, he, ?_⟩)
      simp only [Act.put, List.setIfInBounds_toArray, List.set_cons_zero, List.set_cons_succ]
      obtain ⟨gx, cx, hv⟩ := own64 q1 (fullL_len _ _ _)
      subst hv
      have lx := (q1.lt gx rfl).1
      have A1 : Hid (DS w1 b gs gm 1 L c S true ((k - i : Nat) : Int) (decide (k < i)) ∧ Below w.heap.size w w1 ∧ Row w1 (some ⟨gx, 0, none⟩) 64 (fullL (i : Int) [] 64) ∧ gx ≠ b ∧ gx ≠ gs ∧ gx ≠ gm) := Lib.hid ⟨HD.out.below q2, RI.out.2.2.trans (q2.mono RI.out.2.2.size), (Own.row q1).1, by have := HD.out.lts; omega, by have := HD.out.lts; omega, by have := HD.out.lts; omega⟩
      clear q1 q2 lx HD
      refine wpL_call 11 #[.pointer (some ⟨b, 0, none⟩), .int .i64 0, .slice (some ⟨gx, 0, none⟩) 64 cx] rfl (by kernel_rfl) ((writeD A1.out.1 0 (some ⟨gx, 0, none⟩) 64 cx _ A1.out.2.2.1 (fun p hp => by cases hp; exact A1.out.2.2.2)).mono ?_)
      rintro e w2 hw
      obtain ⟨ev, he, hf, hb2, hev⟩ := fuse_step hw A1.out.2.1 LB.out
      subst he
      subst hev
      have A2 : Hid (FS w2 b gs gm k (i + 1) ∧ Below w.heap.size w w2) := Lib.hid ⟨hf, hb2⟩
      clear hw hf hb2 A1
      refine ⟨_, rfl, ?_⟩
      simp only [Act.put, List.setIfInBounds_toArray, List.set_cons_zero, List.set_cons_succ]
      by_cases hk : i < k
      · have HIK := Lib.hid hk
        rw [if_pos hk]
        clear hk
        refine wpL_pure (.int .i64 0) rfl (by kernel_rfl) ?_
        simp only [Act.put, List.setIfInBounds_toArray, List.set_cons_zero, List.set_cons_succ]
        unfold wpList
        obtain ⟨L2, c2, S2, hds⟩ := A2.out.1
        have HD2 := Lib.hid hds
        clear hds
        go_upto_region 10 with (fail)
        refine wp_region_lit ?_
        refine wpL_pure (.int .i64 0) rfl (by kernel_rfl) ?_
        simp only [Act.put, List.setIfInBounds_toArray, List.set_cons_zero, List.set_cons_succ]
        refine wpL_pure (.bool true) rfl (by kernel_rfl) ?_
        simp only [Act.put, List.setIfInBounds_toArray, List.set_cons_zero, List.set_cons_succ]
        refine wpL_pure (.int .i64 (i : Int)) rfl (by kernel_rfl) ?_
        simp only [Act.put, List.setIfInBounds_toArray, List.set_cons_zero, List.set_cons_succ]
        refine wpL_pure (.int .i64 (k : Int)) rfl (by kernel_rfl) ?_
        simp only [Act.put, List.setIfInBounds_toArray, List.set_cons_zero, List.set_cons_succ]
        refine wpL_pure (.bool true) rfl (run_lti Try.underlying3 rfl rfl rfl (by have := HIK.out; rw [decide_eq_true_eq]; omega)) ?_
        simp only [Act.put, List.setIfInBounds_toArray, List.set_cons_zero, List.set_cons_succ]
        refine wpL_pure (.bool false) rfl (by kernel_rfl) ?_
        simp only [Act.put, List.setIfInBounds_toArray, List.set_cons_zero, List.set_cons_succ]
        refine wpL_pure (.bool false) rfl (by kernel_rfl) ?_
        simp only [Act.put, List.setIfInBounds_toArray, List.set_cons_zero, List.set_cons_succ]
        refine wpL_pure (.int .i64 0) rfl (by kernel_rfl) ?_
        simp only [Act.put, List.setIfInBounds_toArray, List.set_cons_zero, List.set_cons_succ]
        refine wpL_pure (.bool false) rfl (by kernel_rfl) ?_
        simp only [Act.put, List.setIfInBounds_toArray, List.set_cons_zero, List.set_cons_succ]
        refine wpL_pure (.bool false) rfl (by kernel_rfl) ?_
        simp only [Act.put, List.setIfInBounds_toArray, List.set_cons_zero, List.set_cons_succ]
        refine wpL_skip (by kernel_rfl) ?_
        simp only [Act.put, List.setIfInBounds_toArray, List.set_cons_zero, List.set_cons_succ]
        refine wpL_skip (by kernel_rfl) ?_
        simp only [Act.put, List.setIfInBounds_toArray, List.set_cons_zero, List.set_cons_succ]
        refine wpL_pure (.bool false) rfl (by kernel_rfl) ?_
        simp only [Act.put, List.setIfInBounds_toArray, List.set_cons_zero, List.set_cons_succ]
        refine wpL_pure (.bool false) rfl (by kernel_rfl) ?_
        simp only [Act.put, List.setIfInBounds_toArray, List.set_cons_zero, List.set_cons_succ]
        refine wpL_pure (.bool false) rfl (by kernel_rfl) ?_
        simp only [Act.put, List.setIfInBounds_toArray, List.set_cons_zero, List.set_cons_succ]
        refine wpL_pure (.pointer (some ⟨b, 0, none⟩)) rfl (by kernel_rfl) ?_
        simp only [Act.put, List.setIfInBounds_toArray, List.set_cons_zero, List.set_cons_succ]
        refine wpL_call 20 #[.pointer (some ⟨b, 0, none⟩)] rfl (by kernel_rfl) (((goneD HD2.out)).mono fun e w9 ⟨he, hx⟩ => ⟨.bool (decide (k < i + 1)), he, ?_⟩)
        simp only [Act.put, List.setIfInBounds_toArray, List.set_cons_zero, List.set_cons_succ]
        subst hx
        refine wpL_pure (.int .i64 (i : Int)) rfl (by kernel_rfl) ?_
        simp only [Act.put, List.setIfInBounds_toArray, List.set_cons_zero, List.set_cons_succ]
        refine wpL_pure (.int .i64 (k : Int)) rfl (by kernel_rfl) ?_
        simp only [Act.put, List.setIfInBounds_toArray, List.set_cons_zero, List.set_cons_succ]
        refine wpL_pure (.bool false) rfl (run_gei Try.underlying3 rfl rfl rfl (by have := HIK.out; rw [decide_eq_false_iff_not]; omega)) ?_
        simp only [Act.put, List.setIfInBounds_toArray, List.set_cons_zero, List.set_cons_succ]
        refine wpL_pure (.bool false) rfl (by rw [show decide (k < i + 1) = false from by have := HIK.out; simp; omega]; kernel_rfl) ?_
        simp only [Act.put, List.setIfInBounds_toArray, List.set_cons_zero, List.set_cons_succ]
        refine wpL_pure (.bool false) rfl (by kernel_rfl) ?_
        simp only [Act.put, List.setIfInBounds_toArray, List.set_cons_zero, List.set_cons_succ]
        go_upto_region 8 with (fail)
        refine wp_region_lit ?_
        refine wpL_pure (.int .i64 (i : Int)) rfl (by kernel_rfl) ?_
        simp only [Act.put, List.setIfInBounds_toArray, List.set_cons_zero, List.set_cons_succ]
        refine wpL_pure (.int .i64 ((i + 1 : Nat) : Int)) rfl (run_addi Try.underlying3 rfl rfl rfl _ (by have := HI.out; have := HK.out; have := HR.out; rw [wrap_in _ (by omega) (by omega)]; omega)) ?_
        simp only [Act.put, List.setIfInBounds_toArray, List.set_cons_zero, List.set_cons_succ]
        refine wpL_pure (.int .i64 ((i + 1 : Nat) : Int)) rfl (by kernel_rfl) ?_
        simp only [Act.put, List.setIfInBounds_toArray, List.set_cons_zero, List.set_cons_succ]
        have NX : Hid (i + 1 ≤ k + r ∧ FS w2 b gs gm k (i + 1) ∧ Below w.heap.size w w2) := Lib.hid ⟨HI.out, A2.out⟩
        unfold wpList
        go_roundw
        case rel => first | exact ⟨i + 1, rfl, NX⟩ | ((repeat apply Exists.intro); exact ⟨⟨i + 1, rfl, NX⟩, rfl⟩)
        case measure => simp [intOf]; have := HI.out; omega
      · have HIK := Lib.hid hk
        rw [if_neg hk]
        clear hk
        refine wpL_pure (.int .i64 5) rfl (by kernel_rfl) ?_
        simp only [Act.put, List.setIfInBounds_toArray, List.set_cons_zero, List.set_cons_succ]
        unfold wpList
        obtain ⟨L2, c2, S2, hds⟩ := A2.out.1
        have HD2 := Lib.hid hds
        clear hds
        go_upto_region 10 with (fail)
        refine wp_region_lit ?_
        refine wpL_pure (.int .i64 5) rfl (by kernel_rfl) ?_
        simp only [Act.put, List.setIfInBounds_toArray, List.set_cons_zero, List.set_cons_succ]
        refine wpL_pure (.bool false) rfl (by kernel_rfl) ?_
        simp only [Act.put, List.setIfInBounds_toArray, List.set_cons_zero, List.set_cons_succ]
        refine wpL_pure (.int .i64 (i : Int)) rfl (by kernel_rfl) ?_
        simp only [Act.put, List.setIfInBounds_toArray, List.set_cons_zero, List.set_cons_succ]
        refine wpL_pure (.int .i64 (k : Int)) rfl (by kernel_rfl) ?_
        simp only [Act.put, List.setIfInBounds_toArray, List.set_cons_zero, List.set_cons_succ]
        refine wpL_pure (.bool false) rfl (run_lti Try.underlying3 rfl rfl rfl (by have := HIK.out; rw [decide_eq_false_iff_not]; omega)) ?_
        simp only [Act.put, List.setIfInBounds_toArray, List.set_cons_zero, List.set_cons_succ]
        refine wpL_pure (.bool false) rfl (by kernel_rfl) ?_
        simp only [Act.put, List.setIfInBounds_toArray, List.set_cons_zero, List.set_cons_succ]
        refine wpL_pure (.bool false) rfl (by kernel_rfl) ?_
        simp only [Act.put, List.setIfInBounds_toArray, List.set_cons_zero, List.set_cons_succ]
        refine wpL_pure (.int .i64 5) rfl (by kernel_rfl) ?_
        simp only [Act.put, List.setIfInBounds_toArray, List.set_cons_zero, List.set_cons_succ]
        refine wpL_pure (.bool true) rfl (by kernel_rfl) ?_
        simp only [Act.put, List.setIfInBounds_toArray, List.set_cons_zero, List.set_cons_succ]
        refine wpL_pure (.bool true) rfl (by kernel_rfl) ?_
        simp only [Act.put, List.setIfInBounds_toArray, List.set_cons_zero, List.set_cons_succ]
        refine wpL_pure (.int .i64 5) rfl (by kernel_rfl) ?_
        simp only [Act.put, List.setIfInBounds_toArray, List.set_cons_zero, List.set_cons_succ]
        refine wpL_pure (.bool false) rfl (by kernel_rfl) ?_
        simp only [Act.put, List.setIfInBounds_toArray, List.set_cons_zero, List.set_cons_succ]
        refine wpL_pure (.bool false) rfl (by kernel_rfl) ?_
        simp only [Act.put, List.setIfInBounds_toArray, List.set_cons_zero, List.set_cons_succ]
        refine wpL_pure (.bool false) rfl (by kernel_rfl) ?_
        simp only [Act.put, List.setIfInBounds_toArray, List.set_cons_zero, List.set_cons_succ]
        refine wpL_pure (.bool false) rfl (by kernel_rfl) ?_
        simp only [Act.put, List.setIfInBounds_toArray, List.set_cons_zero, List.set_cons_succ]
        refine wpL_pure (.pointer (some ⟨b, 0, none⟩)) rfl (by kernel_rfl) ?_
        simp only [Act.put, List.setIfInBounds_toArray, List.set_cons_zero, List.set_cons_succ]
        refine wpL_call 20 #[.pointer (some ⟨b, 0, none⟩)] rfl (by kernel_rfl) (((goneD HD2.out)).mono fun e w9 ⟨he, hx⟩ => ⟨.bool (decide (k < i + 1)), he, ?_⟩)
        simp only [Act.put, List.setIfInBounds_toArray, List.set_cons_zero, List.set_cons_succ]
        subst hx
        refine wpL_pure (.int .i64 (i : Int)) rfl (by kernel_rfl) ?_
        simp only [Act.put, List.setIfInBounds_toArray, List.set_cons_zero, List.set_cons_succ]
        refine wpL_pure (.int .i64 (k : Int)) rfl (by kernel_rfl) ?_
        simp only [Act.put, List.setIfInBounds_toArray, List.set_cons_zero, List.set_cons_succ]
        refine wpL_pure (.bool true) rfl (run_gei Try.underlying3 rfl rfl rfl (by have := HIK.out; rw [decide_eq_true_eq]; omega)) ?_
        simp only [Act.put, List.setIfInBounds_toArray, List.set_cons_zero, List.set_cons_succ]
        refine wpL_pure (.bool false) rfl (by rw [show decide (k < i + 1) = true from by have := HIK.out; simp; omega]; kernel_rfl) ?_
        simp only [Act.put, List.setIfInBounds_toArray, List.set_cons_zero, List.set_cons_succ]
        refine wpL_pure (.bool false) rfl (by kernel_rfl) ?_
        simp only [Act.put, List.setIfInBounds_toArray, List.set_cons_zero, List.set_cons_succ]
        go_upto_region 8 with (fail)
        refine wp_region_lit ?_
        refine wpL_pure (.int .i64 (i : Int)) rfl (by kernel_rfl) ?_
        simp only [Act.put, List.setIfInBounds_toArray, List.set_cons_zero, List.set_cons_succ]
        refine wpL_pure (.int .i64 ((i + 1 : Nat) : Int)) rfl (run_addi Try.underlying3 rfl rfl rfl _ (by have := HI.out; have := HK.out; have := HR.out; rw [wrap_in _ (by omega) (by omega)]; omega)) ?_
        simp only [Act.put, List.setIfInBounds_toArray, List.set_cons_zero, List.set_cons_succ]
        refine wpL_pure (.int .i64 ((i + 1 : Nat) : Int)) rfl (by kernel_rfl) ?_
        simp only [Act.put, List.setIfInBounds_toArray, List.set_cons_zero, List.set_cons_succ]
        have NX : Hid (i + 1 ≤ k + r ∧ FS w2 b gs gm k (i + 1) ∧ Below w.heap.size w w2) := Lib.hid ⟨HI.out, A2.out⟩
        unfold wpList
        go_roundw
        case rel => first | exact ⟨i + 1, rfl, NX⟩ | ((repeat apply Exists.intro); exact ⟨⟨i + 1, rfl, NX⟩, rfl⟩)
        case measure => simp [intOf]; have := HI.out; omega
    · have HI := Lib.hid hlt
      clear hlt
      go_upto_region 7 with (fail)
      refine wp_region_lit ?_
      refine wpL_pure (.int .i64 (i : Int)) rfl (by kernel_rfl) ?_
      simp only [Act.put, List.setIfInBounds_toArray, List.set_cons_zero, List.set_cons_succ]
      refine wpL_pure (.int .i64 (k : Int)) rfl (by kernel_rfl) ?_
      simp only [Act.put, List.setIfInBounds_toArray, List.set_cons_zero, List.set_cons_succ]
      refine wpL_pure (.int .u8 ((mo : Nat) : Int)) rfl (by kernel_rfl) ?_
      simp only [Act.put, List.setIfInBounds_toArray, List.set_cons_zero, List.set_cons_succ]
      refine wpL_pure (.int .u8 ((r : Nat) : Int)) rfl (run_remu _ _ _ _ mo 10 r rfl rfl (by decide) HR.out.1) ?_
      simp only [Act.put, List.setIfInBounds_toArray, List.set_cons_zero, List.set_cons_succ]
      refine wpL_pure (.int .i64 ((r : Nat) : Int)) rfl (run_convi Try.underlying5 Try.underlying3 rfl rfl _ (by have := HR.out.2; rw [wrap_in _ (by omega) (by omega)])) ?_
      simp only [Act.put, List.setIfInBounds_toArray, List.set_cons_zero, List.set_cons_succ]
      refine wpL_pure (.int .i64 ((k + r : Nat) : Int)) rfl (run_addi Try.underlying3 rfl rfl rfl _ (by have := HK.out; have := HR.out; rw [wrap_in _ (by omega) (by omega)]; omega)) ?_
      simp only [Act.put, List.setIfInBounds_toArray, List.set_cons_zero, List.set_cons_succ]
      refine wpL_pure (.bool false) rfl (run_lti Try.underlying3 rfl rfl rfl (by have := HI.out; rw [decide_eq_false_iff_not]; omega)) ?_
      simp only [Act.put, List.setIfInBounds_toArray, List.set_cons_zero, List.set_cons_succ]
      obtain ⟨L, c, S, hds⟩ := RI.out.2.1
      have HD := Lib.hid hds
      clear hds
      go_upto_region 12 with (fail)
      refine wp_region_lit ?_
      refine zP (.pointer (some ⟨b, 0, none⟩)) ?_
      refine wpL_call 18 #[.pointer (some ⟨b, 0, none⟩), .slice none 0 0] rfl (by kernel_rfl) ((crashD HD.out none 0 0 [] (Row.nil _ _) (fun _ p hp => by cases hp)).mono ?_)
      rintro e w1 ⟨rfl, ks, _, _, d1, f1⟩
      obtain ⟨S1, hS1⟩ : ∃ q, crS [] L ks S ks.length = q := ⟨_, rfl⟩
      rw [hS1] at d1
      have A1 : Hid (DS w1 b gs gm 1 [] c S1 false ((k - i : Nat) : Int) false ∧ Below w.heap.size w w1) := Lib.hid ⟨d1, f1.below RI.out.2.2 LB.out.1 LB.out.2.1 LB.out.2.2⟩
      clear d1 f1 hS1
      refine ⟨_, rfl, ?_⟩
      simp only [Act.put, List.setIfInBounds_toArray, List.set_cons_zero, List.set_cons_succ]
      unfold wpList
      go_upto_region 13 with (fail)
      refine wp_region_lit ?_
      refine zP (.pointer (some ⟨b, 0, none⟩)) ?_
      refine wpL_call 17 #[.pointer (some ⟨b, 0, none⟩)] rfl (by kernel_rfl) ((syncD A1.out.1).mono ?_)
      rintro e w2 hs
      rcases hs with ⟨h1, _⟩ | ⟨_, rfl, d2, f2⟩
      · simp [mayB] at h1
      have A2 : Hid (DS w2 b gs gm 1 [] c S1 false (mayF false ((k - i : Nat) : Int) false) false ∧ Below w.heap.size w w2) := Lib.hid ⟨d2, f2.below A1.out.2 LB.out.1 LB.out.2.1 LB.out.2.2⟩
      clear d2 f2 A1
      refine ⟨_, rfl, ?_⟩
      simp only [Act.put, List.setIfInBounds_toArray, List.set_cons_zero, List.set_cons_succ]
      refine wpL_pure (.bool true) rfl (by kernel_rfl) ?_
      simp only [Act.put, List.setIfInBounds_toArray, List.set_cons_zero, List.set_cons_succ]
      refine wpL_pure (.bool true) rfl (by kernel_rfl) ?_
      simp only [Act.put, List.setIfInBounds_toArray, List.set_cons_zero, List.set_cons_succ]
      refine wpL_pure (.pointer (some ⟨b, 0, none⟩)) rfl (by kernel_rfl) ?_
      simp only [Act.put, List.setIfInBounds_toArray, List.set_cons_zero, List.set_cons_succ]
      refine wpL_call 20 #[.pointer (some ⟨b, 0, none⟩)] rfl (by kernel_rfl) (((goneD A2.out.1)).mono fun e w9 ⟨he, hx⟩ => ⟨.bool false, he, ?_⟩)
      simp only [Act.put, List.setIfInBounds_toArray, List.set_cons_zero, List.set_cons_succ]
      subst hx
      refine wpL_pure (.bool true) rfl (by kernel_rfl) ?_
      simp only [Act.put, List.setIfInBounds_toArray, List.set_cons_zero, List.set_cons_succ]
      refine wpL_pure (.bool true) rfl (by kernel_rfl) ?_
      simp only [Act.put, List.setIfInBounds_toArray, List.set_cons_zero, List.set_cons_succ]
      refine wpL_pure (.bool true) rfl (by kernel_rfl) ?_
      simp only [Act.put, List.setIfInBounds_toArray, List.set_cons_zero, List.set_cons_succ]
      unfold wpList
      go_wp2_with fail
      go_ret
      exact ⟨rfl, A2.out.2⟩
open Go.ChangeShapes Go.WideShapes Go.ChangeAt in
theorem walkDiskFuses (n m : Int) (wn : (Lit.int .u8 n).wf = true) (wm : (Lit.int .u8 m).wf = true) (w : World) : Calls Try.prog 7 #[.int .u8 n, .int .u8 m] w fun e w' => e = .returned (.bool true) ∧ Below w.heap.size w w' := by
  have hn := bounds_u8 wn
  have hm := bounds_u8 wm
  obtain ⟨n, rfl⟩ : ∃ k : Nat, n = (k : Int) := ⟨n.toNat, by omega⟩
  obtain ⟨m, rfl⟩ : ∃ k : Nat, m = (k : Int) := ⟨m.toNat, by omega⟩
  exact fuses_any n m (by omega) (by omega) w
end Go.Proofs.Yticjpjbmjnalhaa
