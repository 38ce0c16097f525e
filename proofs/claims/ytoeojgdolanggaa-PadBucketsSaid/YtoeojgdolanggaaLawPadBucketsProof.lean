/-
  THE SHELL OF A PROOF OF 'Rows.PadBucketsSaid' ('jalousie/jalousielaw06.PadBuckets'), WRITTEN BY PROGRAM (proof-skeleton.mjs) off the guide's own print for that function. Not trusted: Lean checks it.
  YOURS ARE THE HOLES MARKED 'HOLE' (each bears 'sorry'). ALL ELSE IS THE GUIDE's TEMPLATE (howto/template/XProofs.lean) at this function's number and types: leave it.
-/
import Derived.Test.YtoeojgdolanggaaRows
import Derived.WalkKit
import Derived.ProofKit
import Derived.OpenShut
import Derived.WalkLawsBesides
import Derived.Outline
import Derived.Test.YtoeojgdolanggaaPadD
namespace Go.Proofs.Ytoeojgdolanggaa.padBuckets
open Go.ChangeShapes Go.WideShapes Go.ChangeAt Go.RowKit
set_option linter.unusedVariables false      -- a walk need not use every 'w<i>' (that an integer argument fits its kind)

theorem own : ownKnob Try.prog.godebug = none := by kernel_rfl


theorem bat_end (n v : Int) (hv : v = 1 ∨ v = 2 ∨ v = 4 ∨ v = 8 ∨ v = 16 ∨ v = 32 ∨ v = 64 ∨ v = 128 ∨ v = 256 ∨ v = 512 ∨ v = 1024 ∨ v = 2048 ∨ v = 4096 ∨ v = 8192 ∨ v = 16384 ∨ v = 32768 ∨ v = 65536)
    (hn : v = 1 ∨ v / 2 < n) (he : n ≤ v ∨ 65536 ≤ v) : v = bat n := by
  unfold bat
  rcases hv with rfl | rfl | rfl | rfl | rfl | rfl | rfl | rfl | rfl | rfl | rfl | rfl | rfl | rfl | rfl | rfl | rfl <;> omega

def Pow (v : Int) : Prop := v = 1 ∨ v = 2 ∨ v = 4 ∨ v = 8 ∨ v = 16 ∨ v = 32 ∨ v = 64 ∨ v = 128 ∨ v = 256 ∨ v = 512 ∨ v = 1024 ∨ v = 2048 ∨ v = 4096 ∨ v = 8192 ∨ v = 16384 ∨ v = 32768 ∨ v = 65536
def Half (n v : Int) : Prop := v = 1 ∨ v / 2 < n
theorem pow_bd (v : Int) (h : Pow v) : 1 ≤ v ∧ v ≤ 65536 := by unfold Pow at h; omega
theorem pow_next (v : Int) (h : Pow v) (h' : v < 65536) : Pow (v + v) := by unfold Pow at h ⊢; omega
theorem half_next (n v : Int) (h : v < n) (h1 : 1 ≤ v) : Half n (v + v) := by unfold Half; omega
theorem pow_end (n v : Int) (h : Pow v) (h' : Half n v) (he : n ≤ v ∨ 65536 ≤ v) : v = bat n := bat_end n v h h' he

set_option maxHeartbeats 1000000 in
theorem walk_caseA (n : Int) (hn : n < 0) (w : World) :
    Calls Try.prog 4 #[.int .i64 n] w fun e w' => e = .returned (.bool true) ∧ Grown w w' := by
  have e1 : bke n = 1 := by unfold bke; omega
  have e2 : bkv n = 0 := by unfold bkv; omega
  have e3 : isb n = false := by simp [isb]; omega
  have q0 : (n == 64) = false := by simp; omega
  have q1 : (n == 128) = false := by simp; omega
  have q2 : (n == 256) = false := by simp; omega
  have q3 : (n == 512) = false := by simp; omega
  have q4 : (n == 1024) = false := by simp; omega
  have q5 : (n == 2048) = false := by simp; omega
  go_enter Try.func4, Try.ntmps4
  go_wp2_with fail
  refine (bucket_any _ _).mono ?_
  rintro e w' ⟨rfl, rfl⟩
  go_wp2_with fail
  refine (batch_any _ _).mono ?_
  rintro e w' ⟨rfl, rfl⟩
  go_wp2_with fail
  go_loop [6] (fun v => ∃ x : Int, v = .int .i64 x ∧ Pow x ∧ Half n x) (fun v => (65536 - intOf v).toNat)
  case atStart => exact ⟨1, rfl, Or.inl rfl, Or.inl rfl⟩
  case round =>
    obtain ⟨v, rfl, hp, hh⟩ := hrel
    obtain ⟨b1, b2⟩ := pow_bd v hp
    by_cases h1 : v < n
    · by_cases h2 : v < 65536
      · go_wp2
        go_round
        case rel => exact ⟨_, rfl, pow_next v hp h2, half_next n v h1 b1⟩
        case measure => simp [intOf]; omega
      · obtain rfl := pow_end n v hp hh (by omega)
        clear hp hh b1 b2
        go_wp2_with fail
        refine (awake6 _).mono ?_
        rintro e w' ⟨rfl, rfl⟩
        go_wp2_with fail
        refine (is_any _ _).mono ?_
        rintro e w' ⟨rfl, rfl⟩
        go_wp2_with fail
        go_ret
        exact ⟨rfl, Grown.refl _⟩
    · obtain rfl := pow_end n v hp hh (by omega)
      clear hp hh b1 b2
      go_wp2_with fail
      refine (awake6 _).mono ?_
      rintro e w' ⟨rfl, rfl⟩
      go_wp2_with fail
      refine (is_any _ _).mono ?_
      rintro e w' ⟨rfl, rfl⟩
      go_wp2_with fail
      go_ret
      exact ⟨rfl, Grown.refl _⟩

set_option maxHeartbeats 1000000 in
theorem walk_caseB0  (w : World) :
    Calls Try.prog 4 #[.int .i64 64] w fun e w' => e = .returned (.bool true) ∧ Grown w w' := by
  have e1 : bke 64 = 0 := by decide +kernel
  have e2 : bkv 64 = 128 := by decide +kernel
  have e3 : isb 64 = true := by decide +kernel
  go_enter Try.func4, Try.ntmps4
  go_wp2_with fail
  refine (bucket_any _ _).mono ?_
  rintro e w' ⟨rfl, rfl⟩
  go_wp2_with fail
  refine (batch_any _ _).mono ?_
  rintro e w' ⟨rfl, rfl⟩
  go_wp2_with fail
  go_loop [6] (fun v => ∃ x : Int, v = .int .i64 x ∧ Pow x ∧ Half 64 x) (fun v => (65536 - intOf v).toNat)
  case atStart => exact ⟨1, rfl, Or.inl rfl, Or.inl rfl⟩
  case round =>
    obtain ⟨v, rfl, hp, hh⟩ := hrel
    obtain ⟨b1, b2⟩ := pow_bd v hp
    by_cases h1 : v < 64
    · by_cases h2 : v < 65536
      · go_wp2
        go_round
        case rel => exact ⟨_, rfl, pow_next v hp h2, half_next 64 v h1 b1⟩
        case measure => simp [intOf]; omega
      · obtain rfl := pow_end 64 v hp hh (by omega)
        clear hp hh b1 b2
        go_wp2_with fail
        refine (awake6 _).mono ?_
        rintro e w' ⟨rfl, rfl⟩
        go_wp2_with fail
        refine (is_any _ _).mono ?_
        rintro e w' ⟨rfl, rfl⟩
        go_wp2_with fail
        refine (refBucket_any _ (by omega) _).mono ?_
        rintro e w' ⟨rfl, hg⟩
        go_wp2_with fail
        go_ret
        exact ⟨rfl, hg⟩
    · obtain rfl := pow_end 64 v hp hh (by omega)
      clear hp hh b1 b2
      go_wp2_with fail
      refine (awake6 _).mono ?_
      rintro e w' ⟨rfl, rfl⟩
      go_wp2_with fail
      refine (is_any _ _).mono ?_
      rintro e w' ⟨rfl, rfl⟩
      go_wp2_with fail
      refine (refBucket_any _ (by omega) _).mono ?_
      rintro e w' ⟨rfl, hg⟩
      go_wp2_with fail
      go_ret
      exact ⟨rfl, hg⟩

set_option maxHeartbeats 1000000 in
theorem walk_caseB1  (w : World) :
    Calls Try.prog 4 #[.int .i64 128] w fun e w' => e = .returned (.bool true) ∧ Grown w w' := by
  have e1 : bke 128 = 0 := by decide +kernel
  have e2 : bkv 128 = 256 := by decide +kernel
  have e3 : isb 128 = true := by decide +kernel
  go_enter Try.func4, Try.ntmps4
  go_wp2_with fail
  refine (bucket_any _ _).mono ?_
  rintro e w' ⟨rfl, rfl⟩
  go_wp2_with fail
  refine (batch_any _ _).mono ?_
  rintro e w' ⟨rfl, rfl⟩
  go_wp2_with fail
  go_loop [6] (fun v => ∃ x : Int, v = .int .i64 x ∧ Pow x ∧ Half 128 x) (fun v => (65536 - intOf v).toNat)
  case atStart => exact ⟨1, rfl, Or.inl rfl, Or.inl rfl⟩
  case round =>
    obtain ⟨v, rfl, hp, hh⟩ := hrel
    obtain ⟨b1, b2⟩ := pow_bd v hp
    by_cases h1 : v < 128
    · by_cases h2 : v < 65536
      · go_wp2
        go_round
        case rel => exact ⟨_, rfl, pow_next v hp h2, half_next 128 v h1 b1⟩
        case measure => simp [intOf]; omega
      · obtain rfl := pow_end 128 v hp hh (by omega)
        clear hp hh b1 b2
        go_wp2_with fail
        refine (awake6 _).mono ?_
        rintro e w' ⟨rfl, rfl⟩
        go_wp2_with fail
        refine (is_any _ _).mono ?_
        rintro e w' ⟨rfl, rfl⟩
        go_wp2_with fail
        refine (refBucket_any _ (by omega) _).mono ?_
        rintro e w' ⟨rfl, hg⟩
        go_wp2_with fail
        go_ret
        exact ⟨rfl, hg⟩
    · obtain rfl := pow_end 128 v hp hh (by omega)
      clear hp hh b1 b2
      go_wp2_with fail
      refine (awake6 _).mono ?_
      rintro e w' ⟨rfl, rfl⟩
      go_wp2_with fail
      refine (is_any _ _).mono ?_
      rintro e w' ⟨rfl, rfl⟩
      go_wp2_with fail
      refine (refBucket_any _ (by omega) _).mono ?_
      rintro e w' ⟨rfl, hg⟩
      go_wp2_with fail
      go_ret
      exact ⟨rfl, hg⟩

set_option maxHeartbeats 1000000 in
theorem walk_caseB2  (w : World) :
    Calls Try.prog 4 #[.int .i64 256] w fun e w' => e = .returned (.bool true) ∧ Grown w w' := by
  have e1 : bke 256 = 0 := by decide +kernel
  have e2 : bkv 256 = 512 := by decide +kernel
  have e3 : isb 256 = true := by decide +kernel
  go_enter Try.func4, Try.ntmps4
  go_wp2_with fail
  refine (bucket_any _ _).mono ?_
  rintro e w' ⟨rfl, rfl⟩
  go_wp2_with fail
  refine (batch_any _ _).mono ?_
  rintro e w' ⟨rfl, rfl⟩
  go_wp2_with fail
  go_loop [6] (fun v => ∃ x : Int, v = .int .i64 x ∧ Pow x ∧ Half 256 x) (fun v => (65536 - intOf v).toNat)
  case atStart => exact ⟨1, rfl, Or.inl rfl, Or.inl rfl⟩
  case round =>
    obtain ⟨v, rfl, hp, hh⟩ := hrel
    obtain ⟨b1, b2⟩ := pow_bd v hp
    by_cases h1 : v < 256
    · by_cases h2 : v < 65536
      · go_wp2
        go_round
        case rel => exact ⟨_, rfl, pow_next v hp h2, half_next 256 v h1 b1⟩
        case measure => simp [intOf]; omega
      · obtain rfl := pow_end 256 v hp hh (by omega)
        clear hp hh b1 b2
        go_wp2_with fail
        refine (awake6 _).mono ?_
        rintro e w' ⟨rfl, rfl⟩
        go_wp2_with fail
        refine (is_any _ _).mono ?_
        rintro e w' ⟨rfl, rfl⟩
        go_wp2_with fail
        refine (refBucket_any _ (by omega) _).mono ?_
        rintro e w' ⟨rfl, hg⟩
        go_wp2_with fail
        go_ret
        exact ⟨rfl, hg⟩
    · obtain rfl := pow_end 256 v hp hh (by omega)
      clear hp hh b1 b2
      go_wp2_with fail
      refine (awake6 _).mono ?_
      rintro e w' ⟨rfl, rfl⟩
      go_wp2_with fail
      refine (is_any _ _).mono ?_
      rintro e w' ⟨rfl, rfl⟩
      go_wp2_with fail
      refine (refBucket_any _ (by omega) _).mono ?_
      rintro e w' ⟨rfl, hg⟩
      go_wp2_with fail
      go_ret
      exact ⟨rfl, hg⟩

set_option maxHeartbeats 1000000 in
theorem walk_caseB3  (w : World) :
    Calls Try.prog 4 #[.int .i64 512] w fun e w' => e = .returned (.bool true) ∧ Grown w w' := by
  have e1 : bke 512 = 0 := by decide +kernel
  have e2 : bkv 512 = 1024 := by decide +kernel
  have e3 : isb 512 = true := by decide +kernel
  go_enter Try.func4, Try.ntmps4
  go_wp2_with fail
  refine (bucket_any _ _).mono ?_
  rintro e w' ⟨rfl, rfl⟩
  go_wp2_with fail
  refine (batch_any _ _).mono ?_
  rintro e w' ⟨rfl, rfl⟩
  go_wp2_with fail
  go_loop [6] (fun v => ∃ x : Int, v = .int .i64 x ∧ Pow x ∧ Half 512 x) (fun v => (65536 - intOf v).toNat)
  case atStart => exact ⟨1, rfl, Or.inl rfl, Or.inl rfl⟩
  case round =>
    obtain ⟨v, rfl, hp, hh⟩ := hrel
    obtain ⟨b1, b2⟩ := pow_bd v hp
    by_cases h1 : v < 512
    · by_cases h2 : v < 65536
      · go_wp2
        go_round
        case rel => exact ⟨_, rfl, pow_next v hp h2, half_next 512 v h1 b1⟩
        case measure => simp [intOf]; omega
      · obtain rfl := pow_end 512 v hp hh (by omega)
        clear hp hh b1 b2
        go_wp2_with fail
        refine (awake6 _).mono ?_
        rintro e w' ⟨rfl, rfl⟩
        go_wp2_with fail
        refine (is_any _ _).mono ?_
        rintro e w' ⟨rfl, rfl⟩
        go_wp2_with fail
        refine (refBucket_any _ (by omega) _).mono ?_
        rintro e w' ⟨rfl, hg⟩
        go_wp2_with fail
        go_ret
        exact ⟨rfl, hg⟩
    · obtain rfl := pow_end 512 v hp hh (by omega)
      clear hp hh b1 b2
      go_wp2_with fail
      refine (awake6 _).mono ?_
      rintro e w' ⟨rfl, rfl⟩
      go_wp2_with fail
      refine (is_any _ _).mono ?_
      rintro e w' ⟨rfl, rfl⟩
      go_wp2_with fail
      refine (refBucket_any _ (by omega) _).mono ?_
      rintro e w' ⟨rfl, hg⟩
      go_wp2_with fail
      go_ret
      exact ⟨rfl, hg⟩

set_option maxHeartbeats 1000000 in
theorem walk_caseB4  (w : World) :
    Calls Try.prog 4 #[.int .i64 1024] w fun e w' => e = .returned (.bool true) ∧ Grown w w' := by
  have e1 : bke 1024 = 0 := by decide +kernel
  have e2 : bkv 1024 = 2048 := by decide +kernel
  have e3 : isb 1024 = true := by decide +kernel
  go_enter Try.func4, Try.ntmps4
  go_wp2_with fail
  refine (bucket_any _ _).mono ?_
  rintro e w' ⟨rfl, rfl⟩
  go_wp2_with fail
  refine (batch_any _ _).mono ?_
  rintro e w' ⟨rfl, rfl⟩
  go_wp2_with fail
  go_loop [6] (fun v => ∃ x : Int, v = .int .i64 x ∧ Pow x ∧ Half 1024 x) (fun v => (65536 - intOf v).toNat)
  case atStart => exact ⟨1, rfl, Or.inl rfl, Or.inl rfl⟩
  case round =>
    obtain ⟨v, rfl, hp, hh⟩ := hrel
    obtain ⟨b1, b2⟩ := pow_bd v hp
    by_cases h1 : v < 1024
    · by_cases h2 : v < 65536
      · go_wp2
        go_round
        case rel => exact ⟨_, rfl, pow_next v hp h2, half_next 1024 v h1 b1⟩
        case measure => simp [intOf]; omega
      · obtain rfl := pow_end 1024 v hp hh (by omega)
        clear hp hh b1 b2
        go_wp2_with fail
        refine (awake6 _).mono ?_
        rintro e w' ⟨rfl, rfl⟩
        go_wp2_with fail
        refine (is_any _ _).mono ?_
        rintro e w' ⟨rfl, rfl⟩
        go_wp2_with fail
        refine (refBucket_any _ (by omega) _).mono ?_
        rintro e w' ⟨rfl, hg⟩
        go_wp2_with fail
        go_ret
        exact ⟨rfl, hg⟩
    · obtain rfl := pow_end 1024 v hp hh (by omega)
      clear hp hh b1 b2
      go_wp2_with fail
      refine (awake6 _).mono ?_
      rintro e w' ⟨rfl, rfl⟩
      go_wp2_with fail
      refine (is_any _ _).mono ?_
      rintro e w' ⟨rfl, rfl⟩
      go_wp2_with fail
      refine (refBucket_any _ (by omega) _).mono ?_
      rintro e w' ⟨rfl, hg⟩
      go_wp2_with fail
      go_ret
      exact ⟨rfl, hg⟩

set_option maxHeartbeats 1000000 in
theorem walk_caseB5  (w : World) :
    Calls Try.prog 4 #[.int .i64 2048] w fun e w' => e = .returned (.bool true) ∧ Grown w w' := by
  have e1 : bke 2048 = 3 := by decide +kernel
  have e2 : bkv 2048 = 0 := by decide +kernel
  have e3 : isb 2048 = true := by decide +kernel
  go_enter Try.func4, Try.ntmps4
  go_wp2_with fail
  refine (bucket_any _ _).mono ?_
  rintro e w' ⟨rfl, rfl⟩
  go_wp2_with fail
  refine (batch_any _ _).mono ?_
  rintro e w' ⟨rfl, rfl⟩
  go_wp2_with fail
  go_loop [6] (fun v => ∃ x : Int, v = .int .i64 x ∧ Pow x ∧ Half 2048 x) (fun v => (65536 - intOf v).toNat)
  case atStart => exact ⟨1, rfl, Or.inl rfl, Or.inl rfl⟩
  case round =>
    obtain ⟨v, rfl, hp, hh⟩ := hrel
    obtain ⟨b1, b2⟩ := pow_bd v hp
    by_cases h1 : v < 2048
    · by_cases h2 : v < 65536
      · go_wp2
        go_round
        case rel => exact ⟨_, rfl, pow_next v hp h2, half_next 2048 v h1 b1⟩
        case measure => simp [intOf]; omega
      · obtain rfl := pow_end 2048 v hp hh (by omega)
        clear hp hh b1 b2
        go_wp2_with fail
        refine (awake6 _).mono ?_
        rintro e w' ⟨rfl, rfl⟩
        go_wp2_with fail
        refine (is_any _ _).mono ?_
        rintro e w' ⟨rfl, rfl⟩
        go_wp2_with fail
        refine (refBucket_any _ (by omega) _).mono ?_
        rintro e w' ⟨rfl, hg⟩
        go_wp2_with fail
        go_ret
        exact ⟨rfl, hg⟩
    · obtain rfl := pow_end 2048 v hp hh (by omega)
      clear hp hh b1 b2
      go_wp2_with fail
      refine (awake6 _).mono ?_
      rintro e w' ⟨rfl, rfl⟩
      go_wp2_with fail
      refine (is_any _ _).mono ?_
      rintro e w' ⟨rfl, rfl⟩
      go_wp2_with fail
      refine (refBucket_any _ (by omega) _).mono ?_
      rintro e w' ⟨rfl, hg⟩
      go_wp2_with fail
      go_ret
      exact ⟨rfl, hg⟩

set_option maxHeartbeats 1000000 in
theorem walk_caseC (n : Int) (hn : 0 ≤ n) (hn2 : n < 2048) (hq : isb n = false) (w : World) :
    Calls Try.prog 4 #[.int .i64 n] w fun e w' => e = .returned (.bool true) ∧ Grown w w' := by
  have e1 : bke n = 0 := by unfold bke; omega
  obtain ⟨x1, x2, _, _⟩ := bkv_low n hn hn2
  have x3 : (bkv n == 0) = false := by simp; omega
  have hq' := hq
  simp only [isb, decide_eq_false_iff_not, not_or] at hq'
  have q0 : (n == 64) = false := by simp; omega
  have q1 : (n == 128) = false := by simp; omega
  have q2 : (n == 256) = false := by simp; omega
  have q3 : (n == 512) = false := by simp; omega
  have q4 : (n == 1024) = false := by simp; omega
  have q5 : (n == 2048) = false := by simp; omega
  clear hq'
  go_enter Try.func4, Try.ntmps4
  go_wp2_with fail
  refine (bucket_any _ _).mono ?_
  rintro e w' ⟨rfl, rfl⟩
  go_wp2_with fail
  refine (batch_any _ _).mono ?_
  rintro e w' ⟨rfl, rfl⟩
  go_wp2_with fail
  go_loop [6] (fun v => ∃ x : Int, v = .int .i64 x ∧ Pow x ∧ Half n x) (fun v => (65536 - intOf v).toNat)
  case atStart => exact ⟨1, rfl, Or.inl rfl, Or.inl rfl⟩
  case round =>
    obtain ⟨v, rfl, hp, hh⟩ := hrel
    obtain ⟨b1, b2⟩ := pow_bd v hp
    by_cases h1 : v < n
    · by_cases h2 : v < 65536
      · go_wp2
        go_round
        case rel => exact ⟨_, rfl, pow_next v hp h2, half_next n v h1 b1⟩
        case measure => simp [intOf]; omega
      · exfalso; omega
    · obtain rfl := pow_end n v hp hh (by omega)
      clear hp hh b1 b2
      go_wp2_with fail
      refine (awake6 _).mono ?_
      rintro e w' ⟨rfl, rfl⟩
      go_wp2_with fail
      refine (is_any _ _).mono ?_
      rintro e w' ⟨rfl, rfl⟩
      go_wp2_with fail
      refine (refBucket_any _ (by omega) _).mono ?_
      rintro e w' ⟨rfl, hg⟩
      go_wp2_with fail
      go_ret
      exact ⟨rfl, hg⟩

set_option maxHeartbeats 1000000 in
theorem walk_caseD (n : Int) (hn2 : 2048 < n) (hq : isb n = false) (w : World) :
    Calls Try.prog 4 #[.int .i64 n] w fun e w' => e = .returned (.bool true) ∧ Grown w w' := by
  have e1 : bke n = 3 := by unfold bke; omega
  have e2 : bkv n = 0 := by unfold bkv; omega
  have q0 : (n == 64) = false := by simp; omega
  have q1 : (n == 128) = false := by simp; omega
  have q2 : (n == 256) = false := by simp; omega
  have q3 : (n == 512) = false := by simp; omega
  have q4 : (n == 1024) = false := by simp; omega
  have q5 : (n == 2048) = false := by simp; omega
  go_enter Try.func4, Try.ntmps4
  go_wp2_with fail
  refine (bucket_any _ _).mono ?_
  rintro e w' ⟨rfl, rfl⟩
  go_wp2_with fail
  refine (batch_any _ _).mono ?_
  rintro e w' ⟨rfl, rfl⟩
  go_wp2_with fail
  go_loop [6] (fun v => ∃ x : Int, v = .int .i64 x ∧ Pow x ∧ Half n x) (fun v => (65536 - intOf v).toNat)
  case atStart => exact ⟨1, rfl, Or.inl rfl, Or.inl rfl⟩
  case round =>
    obtain ⟨v, rfl, hp, hh⟩ := hrel
    obtain ⟨b1, b2⟩ := pow_bd v hp
    by_cases h1 : v < n
    · by_cases h2 : v < 65536
      · go_wp2
        go_round
        case rel => exact ⟨_, rfl, pow_next v hp h2, half_next n v h1 b1⟩
        case measure => simp [intOf]; omega
      · obtain rfl := pow_end n v hp hh (by omega)
        clear hp hh b1 b2
        go_wp2_with fail
        refine (awake6 _).mono ?_
        rintro e w' ⟨rfl, rfl⟩
        go_wp2_with fail
        refine (is_any _ _).mono ?_
        rintro e w' ⟨rfl, rfl⟩
        go_wp2_with fail
        refine (refBucket_any _ (by omega) _).mono ?_
        rintro e w' ⟨rfl, hg⟩
        go_wp2_with fail
        go_ret
        exact ⟨rfl, hg⟩
    · obtain rfl := pow_end n v hp hh (by omega)
      clear hp hh b1 b2
      go_wp2_with fail
      refine (awake6 _).mono ?_
      rintro e w' ⟨rfl, rfl⟩
      go_wp2_with fail
      refine (is_any _ _).mono ?_
      rintro e w' ⟨rfl, rfl⟩
      go_wp2_with fail
      refine (refBucket_any _ (by omega) _).mono ?_
      rintro e w' ⟨rfl, hg⟩
      go_wp2_with fail
      go_ret
      exact ⟨rfl, hg⟩

theorem walk (a0 : Int) (w0 : (Lit.int .i64 a0).wf = true) (w : World) :
    Calls Try.prog 4 #[.int .i64 a0] w fun e w' => e = .returned (.bool true) ∧ Grown w w' := by
  by_cases h : a0 < 0
  · exact walk_caseA a0 h w
  by_cases hi : isb a0 = true
  · have hs : a0 = 64 ∨ a0 = 128 ∨ a0 = 256 ∨ a0 = 512 ∨ a0 = 1024 ∨ a0 = 2048 := of_decide_eq_true hi
    rcases hs with rfl | rfl | rfl | rfl | rfl | rfl
    · exact walk_caseB0 w
    · exact walk_caseB1 w
    · exact walk_caseB2 w
    · exact walk_caseB3 w
    · exact walk_caseB4 w
    · exact walk_caseB5 w
  · have hi' : isb a0 = false := by simpa using hi
    by_cases h2 : a0 < 2048
    · exact walk_caseC a0 (by omega) h2 hi' w
    · have : a0 ≠ 2048 := by rintro rfl; exact hi (by decide +kernel)
      exact walk_caseD a0 (by omega) hi' w

/-! ### THE ROW's STEP: WRITTEN OUT: LEAVE IT -/
set_option maxRecDepth 100000 in
theorem lifted (os : Os) (started : os.Started) (H : Type) (enc : TypeId × Value → H) :
    ReturnsInHanded {} Try.checked os 4 .any (Rows.padBucketsSpec.pre6 enc Try.prog Try.f4 Rows.padBucketsRow.domain false) (Rows.padBucketsSpec.post enc Try.prog Try.f4 false true false false) := by
  refine returnsInHanded_of_change (C := Try.checked) own started (by kernel_rfl) Try.func4
    (ChangeSpec.witness6 (enc := enc) (C := Try.checked) false ⟨#[], #[.int .i64 0], []⟩ 8 (by kernel_rfl) (by kernel_rfl) (by kernel_rfl) (by kernel_rfl)) ?_
  intro W base args ds gs before hval0 hW hcnd _
  have hval : ∀ (j : Nat) t v, Try.f4.params[j]? = some t → args[j]? = some v → Value.okWide Try.prog W .any base t v := hval0
  have hW' := hW
  obtain ⟨p, q, hA0, hV, rfl, hfz, hnd⟩ := hW
  have hA : DataW.TrodAll enc Try.prog W 0 (fun _ => true) true Try.f4.params.toList args.toList ds p := hA0
  rw [Try.params4] at hA hval
  obtain ⟨v0, vs0, d0, ds0, p0, q0, hargs, rfl, rfl, h0, r0⟩ := trodAll_cons hA
  obtain ⟨rfl, rfl, rfl⟩ := trodAll_nil r0
  obtain rfl : args = #[v0] := by cases args; simp_all
  obtain ⟨rfl, rfl⟩ := trodVars_none hV
  obtain ⟨a0, rfl, rfl, rfl, w0⟩ := open_int Try.underlying3 (hval 0 3 v0 rfl rfl) h0
  clear hA0 hval0
  simp only [List.append_nil] at hW'
  refine (walk a0 w0 W).mono fun e W' ⟨he, hg⟩ => ?_
  subst he
  exact ⟨_, rfl, post_of_same (pa := []) (pv := []) hW' (fun _ _ _ => (trodAll_cons_mk (shut_bool Try.underlying4 _) trodAll_mk0)) (fun sp _ => (trodAll_cons_mk (shut_int Try.underlying3 w0) trodAll_mk0)) (fun _ _ => rfl) rfl
    (hg.frame _) hg.2.1 (ok_one (by kernel_rfl) rfl (okWide_bool_mk Try.underlying4 _))⟩

theorem over : Rows.padBucketsRow.holds Try.pinned (OpenSpec.ofChange Rows.padBucketsSpec) :=
  OpenClaim.holds_of_wide 4 Try.f4 rfl rfl rfl rfl rfl rfl rfl ⟨rfl, rfl, rfl, rfl, rfl⟩ rfl rfl rfl rfl rfl (by kernel_rfl) Try.func4 (by kernel_rfl)
    (of_decide_eq_true (by kernel_rfl)) (by unfold Func.isWrapper; first | (rw [if_pos (by decide +kernel)]; kernel_rfl) | (rw [if_neg (by decide +kernel)]; exact ⟨rfl, rfl⟩))
    (fun os started H enc _ => lifted os started H enc)

/-- ████ THE STATEMENT ████ -/
theorem proved : Rows.PadBucketsSaid :=
  over
#print axioms proved
end Go.Proofs.Ytoeojgdolanggaa.padBuckets
