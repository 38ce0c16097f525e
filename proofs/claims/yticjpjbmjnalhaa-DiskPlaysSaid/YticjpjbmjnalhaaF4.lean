/- The reference's count of what is loose. -/
import Derived.Test.YticjpjbmjnalhaaF3
namespace Go.Proofs.Yticjpjbmjnalhaa
open Go Go.RowKit
set_option maxRecDepth 100000
theorem run_idx57 (a : Act) (o : Oper) (w : World) (x i : Operand) (g off n c k : Nat) (ho : o.op = .indexAddr 57 x i) (hx : a.eval x = .slice (some ⟨g, off, none⟩) n c) (hi : a.eval i = .int .i64 (k : Int)) (hk : k < n) (hn : n ≤ maxLen) : (execOp a.eval o).run Try.prog w = .ok (.value (.pointer (some ⟨g, off + k, none⟩))) w := by
  unfold maxLen at hn
  have j0 : (0 : Int) ≤ (k : Int) := by omega
  have j6 : (k : Int) < (n : Int) := by omega
  unfold execOp
  simp only [ho, hx, hi]
  go_simp

theorem run_idx57' (a : Act) (o : Oper) (w : World) (x i : Operand) (ad : Option Addr) (g n c k : Nat) (ho : o.op = .indexAddr 57 x i) (hx : a.eval x = .slice ad n c) (ha : ad = some ⟨g, 0, none⟩) (hi : a.eval i = .int .i64 (k : Int)) (hk : k < n) (hn : n ≤ maxLen) : (execOp a.eval o).run Try.prog w = .ok (.value (.pointer (some ⟨g, k, none⟩))) w := by
  subst ha
  have q := run_idx57 a o w x i g 0 n c k ho hx hi hk hn
  rw [Nat.zero_add] at q
  exact q
/-- how many of the first k are. -/
def cntB (Is : Nat → Bool) : Nat → Nat
  | 0 => 0
  | k + 1 => cntB Is k + if Is k then 1 else 0
theorem cntB_le (Is : Nat → Bool) : ∀ k, cntB Is k ≤ k
  | 0 => Nat.le_refl _
  | k + 1 => by have := cntB_le Is k; unfold cntB; split <;> omega
attribute [local irreducible] wpList
set_option maxHeartbeats 4000000 in
theorem looseR (w : World) (r g n c : Nat) (a : Option Addr) (vN vW : Value) (Is : Nat → Bool) (fz : Int) (go : Bool) (h : Blk w r 59 (RL vN vW (.slice a n c) fz go).toArray) (ha : 0 < n → a = some ⟨g, 0, none⟩) (hI : ∀ k, k < n → w.cell? ⟨g, k, none⟩ = some (.bool (Is k))) (hn : n ≤ 12) :
    Calls Try.prog 29 #[.pointer (some ⟨r, 0, none⟩)] w fun e w' => e = .returned (.int .i64 (cntB Is n : Nat)) ∧ w' = w := by
  have H := Lib.hid h
  have HA := Lib.hid ha
  have HI := Lib.hid hI
  have HN := Lib.hid hn
  clear h ha hI hn
  go_enter Try.func29, Try.ntmps29
  go_upto_region 0 with (fail)
  refine wp_region_lit ?_
  refine wpL_pure (.int .i64 0) rfl (by kernel_rfl) ?_
  simp only [Act.put, List.setIfInBounds_toArray, List.set_cons_zero, List.set_cons_succ]
  go_upto_region 1 with (fail)
  refine wp_region_lit ?_
  refine wpL_pure (.int .i64 0) rfl (by kernel_rfl) ?_
  simp only [Act.put, List.setIfInBounds_toArray, List.set_cons_zero, List.set_cons_succ]
  go_upto_region 2 with (fail)
  refine wp_region_lit ?_
  refine wpL_pure (.int .i64 0) rfl (by kernel_rfl) ?_
  simp only [Act.put, List.setIfInBounds_toArray, List.set_cons_zero, List.set_cons_succ]
  go_wp2_with fail
  go_loopw [3, 4] (fun s3 s4 wr => ∃ k : Nat, s3 = .int .i64 (cntB Is k : Nat) ∧ s4 = .int .i64 (k : Int) ∧ Hid (k ≤ n ∧ wr = w)) (fun _ s4 _ => n - (intOf s4).toNat)
  case atStart => exact ⟨0, rfl, rfl, Lib.hid ⟨by omega, rfl⟩⟩
  case round =>
    obtain ⟨k, rfl, rfl, RI⟩ := hrel
    obtain ⟨s, hs⟩ : ∃ s, cntB Is k = s := ⟨_, rfl⟩
    have HS := Lib.hid hs
    have SB : Hid (s ≤ k) := Lib.hid (by rw [← hs]; exact cntB_le Is k)
    rw [hs]
    clear hs
    have C2 : Hid (wr.cell? ⟨r, 2, none⟩ = some (.slice a n c)) := Lib.hid (by rw [RI.out.2, H.out.cell]; rfl)
    by_cases hlt : k < n
    · have HK := Lib.hid hlt
      clear hlt
      go_upto_region 3 with (fail)
      refine wp_region_lit ?_
      refine wpL_pure (.int .i64 (k : Int)) rfl (by kernel_rfl) ?_
      simp only [Act.put, List.setIfInBounds_toArray, List.set_cons_zero, List.set_cons_succ]
      refine wpL_pure (.pointer (some ⟨r, 0, none⟩)) rfl (by kernel_rfl) ?_
      simp only [Act.put, List.setIfInBounds_toArray, List.set_cons_zero, List.set_cons_succ]
      refine wpL_pure (.pointer (some ⟨r, 0, none⟩)) rfl (by kernel_rfl) ?_
      simp only [Act.put, List.setIfInBounds_toArray, List.set_cons_zero, List.set_cons_succ]
      refine wpL_pure (.pointer (some ⟨r, 2, none⟩)) rfl (by kernel_rfl) ?_
      simp only [Act.put, List.setIfInBounds_toArray, List.set_cons_zero, List.set_cons_succ]
      refine wpL_pure (.slice a n c) rfl (run_load_one _ _ _ 57 _ _ rfl (r) (2) rfl (C2.out) (by kernel_rfl)) ?_
      simp only [Act.put, List.setIfInBounds_toArray, List.set_cons_zero, List.set_cons_succ]
      refine wpL_pure (.int .i64 (n : Int)) rfl (by kernel_rfl) ?_
      simp only [Act.put, List.setIfInBounds_toArray, List.set_cons_zero, List.set_cons_succ]
      refine wpL_pure (.bool true) rfl (run_lti Try.underlying3 rfl rfl rfl (by have := HK.out; rw [decide_eq_true_eq]; omega)) ?_
      simp only [Act.put, List.setIfInBounds_toArray, List.set_cons_zero, List.set_cons_succ]
      have CI : Hid (wr.cell? ⟨g, k, none⟩ = some (.bool (Is k))) := Lib.hid (by rw [RI.out.2]; exact HI.out k HK.out)
      obtain ⟨z, hz⟩ : ∃ z, Is k = z := ⟨_, rfl⟩
      have HZ := Lib.hid hz
      rw [hz] at CI
      clear hz
      cases z
      · go_upto_region 5 with (fail)
        refine wp_region_lit ?_
        refine wpL_pure (.pointer (some ⟨r, 0, none⟩)) rfl (by kernel_rfl) ?_
        simp only [Act.put, List.setIfInBounds_toArray, List.set_cons_zero, List.set_cons_succ]
        refine wpL_pure (.pointer (some ⟨r, 0, none⟩)) rfl (by kernel_rfl) ?_
        simp only [Act.put, List.setIfInBounds_toArray, List.set_cons_zero, List.set_cons_succ]
        refine wpL_pure (.pointer (some ⟨r, 2, none⟩)) rfl (by kernel_rfl) ?_
        simp only [Act.put, List.setIfInBounds_toArray, List.set_cons_zero, List.set_cons_succ]
        refine wpL_pure (.slice a n c) rfl (run_load_one _ _ _ 57 _ _ rfl (r) (2) rfl (C2.out) (by kernel_rfl)) ?_
        simp only [Act.put, List.setIfInBounds_toArray, List.set_cons_zero, List.set_cons_succ]
        refine wpL_pure (.int .i64 (k : Int)) rfl (by kernel_rfl) ?_
        simp only [Act.put, List.setIfInBounds_toArray, List.set_cons_zero, List.set_cons_succ]
        refine wpL_pure (.pointer (some ⟨g, k, none⟩)) rfl (run_idx57' _ _ _ _ _ a g n c k rfl rfl (HA.out (by have := HK.out; omega)) rfl HK.out (by have := HN.out; unfold maxLen; omega)) ?_
        simp only [Act.put, List.setIfInBounds_toArray, List.set_cons_zero, List.set_cons_succ]
        refine wpL_pure (.bool false) rfl (run_load_one _ _ _ 4 _ _ rfl (g) (k) rfl (CI.out) (by kernel_rfl)) ?_
        simp only [Act.put, List.setIfInBounds_toArray, List.set_cons_zero, List.set_cons_succ]
        go_upto_region 4 with (fail)
        refine wp_region_lit ?_
        refine wpL_pure (.int .i64 (k : Int)) rfl (by kernel_rfl) ?_
        simp only [Act.put, List.setIfInBounds_toArray, List.set_cons_zero, List.set_cons_succ]
        refine wpL_pure (.int .i64 ((k + 1 : Nat) : Int)) rfl (run_addi Try.underlying3 rfl rfl rfl _ (by have := HK.out; have := HN.out; rw [wrap_in _ (by omega) (by omega)]; omega)) ?_
        simp only [Act.put, List.setIfInBounds_toArray, List.set_cons_zero, List.set_cons_succ]
        refine wpL_pure (.int .i64 ((k + 1 : Nat) : Int)) rfl (by kernel_rfl) ?_
        simp only [Act.put, List.setIfInBounds_toArray, List.set_cons_zero, List.set_cons_succ]
        have EF : s = cntB Is (k + 1) := by simp [cntB, HZ.out, HS.out]
        have NX : Hid (k + 1 ≤ n ∧ wr = w) := Lib.hid ⟨HK.out, RI.out.2⟩
        unfold wpList
        go_roundw
        case rel => first | exact ⟨k + 1, by rw [EF], rfl, NX⟩ | ((repeat apply Exists.intro); exact ⟨⟨k + 1, by rw [EF], rfl, NX⟩, rfl⟩)
        case measure => simp [intOf]; have := HK.out; omega
      · go_upto_region 5 with (fail)
        refine wp_region_lit ?_
        refine wpL_pure (.pointer (some ⟨r, 0, none⟩)) rfl (by kernel_rfl) ?_
        simp only [Act.put, List.setIfInBounds_toArray, List.set_cons_zero, List.set_cons_succ]
        refine wpL_pure (.pointer (some ⟨r, 0, none⟩)) rfl (by kernel_rfl) ?_
        simp only [Act.put, List.setIfInBounds_toArray, List.set_cons_zero, List.set_cons_succ]
        refine wpL_pure (.pointer (some ⟨r, 2, none⟩)) rfl (by kernel_rfl) ?_
        simp only [Act.put, List.setIfInBounds_toArray, List.set_cons_zero, List.set_cons_succ]
        refine wpL_pure (.slice a n c) rfl (run_load_one _ _ _ 57 _ _ rfl (r) (2) rfl (C2.out) (by kernel_rfl)) ?_
        simp only [Act.put, List.setIfInBounds_toArray, List.set_cons_zero, List.set_cons_succ]
        refine wpL_pure (.int .i64 (k : Int)) rfl (by kernel_rfl) ?_
        simp only [Act.put, List.setIfInBounds_toArray, List.set_cons_zero, List.set_cons_succ]
        refine wpL_pure (.pointer (some ⟨g, k, none⟩)) rfl (run_idx57' _ _ _ _ _ a g n c k rfl rfl (HA.out (by have := HK.out; omega)) rfl HK.out (by have := HN.out; unfold maxLen; omega)) ?_
        simp only [Act.put, List.setIfInBounds_toArray, List.set_cons_zero, List.set_cons_succ]
        refine wpL_pure (.bool true) rfl (run_load_one _ _ _ 4 _ _ rfl (g) (k) rfl (CI.out) (by kernel_rfl)) ?_
        simp only [Act.put, List.setIfInBounds_toArray, List.set_cons_zero, List.set_cons_succ]
        go_upto_region 6 with (fail)
        refine wp_region_lit ?_
        refine wpL_pure (.int .i64 (s : Nat)) rfl (by kernel_rfl) ?_
        simp only [Act.put, List.setIfInBounds_toArray, List.set_cons_zero, List.set_cons_succ]
        refine wpL_pure (.int .i64 ((s + 1 : Nat) : Int)) rfl (run_addi Try.underlying3 rfl rfl rfl _ (by have := SB.out; have := RI.out.1; have := HN.out; rw [wrap_in _ (by omega) (by omega)]; omega)) ?_
        simp only [Act.put, List.setIfInBounds_toArray, List.set_cons_zero, List.set_cons_succ]
        refine wpL_pure (.int .i64 ((s + 1 : Nat) : Int)) rfl (by kernel_rfl) ?_
        simp only [Act.put, List.setIfInBounds_toArray, List.set_cons_zero, List.set_cons_succ]
        go_upto_region 4 with (fail)
        refine wp_region_lit ?_
        refine wpL_pure (.int .i64 (k : Int)) rfl (by kernel_rfl) ?_
        simp only [Act.put, List.setIfInBounds_toArray, List.set_cons_zero, List.set_cons_succ]
        refine wpL_pure (.int .i64 ((k + 1 : Nat) : Int)) rfl (run_addi Try.underlying3 rfl rfl rfl _ (by have := HK.out; have := HN.out; rw [wrap_in _ (by omega) (by omega)]; omega)) ?_
        simp only [Act.put, List.setIfInBounds_toArray, List.set_cons_zero, List.set_cons_succ]
        refine wpL_pure (.int .i64 ((k + 1 : Nat) : Int)) rfl (by kernel_rfl) ?_
        simp only [Act.put, List.setIfInBounds_toArray, List.set_cons_zero, List.set_cons_succ]
        have EF : s + 1 = cntB Is (k + 1) := by simp [cntB, HZ.out, HS.out]
        have NX : Hid (k + 1 ≤ n ∧ wr = w) := Lib.hid ⟨HK.out, RI.out.2⟩
        unfold wpList
        go_roundw
        case rel => first | exact ⟨k + 1, by rw [EF], rfl, NX⟩ | ((repeat apply Exists.intro); exact ⟨⟨k + 1, by rw [EF], rfl, NX⟩, rfl⟩)
        case measure => simp [intOf]; have := HK.out; omega
    · have HK := Lib.hid hlt
      clear hlt
      go_upto_region 3 with (fail)
      refine wp_region_lit ?_
      refine wpL_pure (.int .i64 (k : Int)) rfl (by kernel_rfl) ?_
      simp only [Act.put, List.setIfInBounds_toArray, List.set_cons_zero, List.set_cons_succ]
      refine wpL_pure (.pointer (some ⟨r, 0, none⟩)) rfl (by kernel_rfl) ?_
      simp only [Act.put, List.setIfInBounds_toArray, List.set_cons_zero, List.set_cons_succ]
      refine wpL_pure (.pointer (some ⟨r, 0, none⟩)) rfl (by kernel_rfl) ?_
      simp only [Act.put, List.setIfInBounds_toArray, List.set_cons_zero, List.set_cons_succ]
      refine wpL_pure (.pointer (some ⟨r, 2, none⟩)) rfl (by kernel_rfl) ?_
      simp only [Act.put, List.setIfInBounds_toArray, List.set_cons_zero, List.set_cons_succ]
      refine wpL_pure (.slice a n c) rfl (run_load_one _ _ _ 57 _ _ rfl (r) (2) rfl (C2.out) (by kernel_rfl)) ?_
      simp only [Act.put, List.setIfInBounds_toArray, List.set_cons_zero, List.set_cons_succ]
      refine wpL_pure (.int .i64 (n : Int)) rfl (by kernel_rfl) ?_
      simp only [Act.put, List.setIfInBounds_toArray, List.set_cons_zero, List.set_cons_succ]
      refine wpL_pure (.bool false) rfl (run_lti Try.underlying3 rfl rfl rfl (by have := HK.out; rw [decide_eq_false_iff_not]; omega)) ?_
      simp only [Act.put, List.setIfInBounds_toArray, List.set_cons_zero, List.set_cons_succ]
      go_upto_region 7 with (fail)
      refine wp_region_lit ?_
      refine wpL_pure (.int .i64 (s : Nat)) rfl (by kernel_rfl) ?_
      simp only [Act.put, List.setIfInBounds_toArray, List.set_cons_zero, List.set_cons_succ]
      refine wpL_pure (.int .i64 (s : Nat)) rfl (by kernel_rfl) ?_
      simp only [Act.put, List.setIfInBounds_toArray, List.set_cons_zero, List.set_cons_succ]
      go_wp2_with fail
      go_ret
      exact ⟨by have e : n = k := (by have := RI.out.1; have := HK.out; omega)
                rw [e, HS.out]; rfl, RI.out.2⟩
end Go.Proofs.Yticjpjbmjnalhaa
