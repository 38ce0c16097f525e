import Derived.Test.YtoeojgdolanggaaRows
import Derived.WalkKit
import Derived.WalkLawsBesides
import Derived.Outline
import Derived.Lib.Hide
namespace Go.Proofs.Ytoeojgdolanggaa
open Go.RowKit

/-- what the bucket of a length is. -/
def bkv (n : Int) : Int := if n < 0 then 0 else if n < 64 then 64 else if n < 128 then 128 else if n < 256 then 256 else if n < 512 then 512 else if n < 1024 then 1024 else if n < 2048 then 2048 else 0
def bke (n : Int) : Int := if n < 0 then 1 else if n < 2048 then 0 else 3
/-- is it a bucket? -/
def isb (n : Int) : Bool := decide (n = 64 ∨ n = 128 ∨ n = 256 ∨ n = 512 ∨ n = 1024 ∨ n = 2048)
/-- the power of two that isn't below, from 1 to 65536. -/
def bat (n : Int) : Int := if n ≤ 1 then 1 else if n ≤ 2 then 2 else if n ≤ 4 then 4 else if n ≤ 8 then 8 else if n ≤ 16 then 16 else if n ≤ 32 then 32 else if n ≤ 64 then 64 else if n ≤ 128 then 128 else if n ≤ 256 then 256 else if n ≤ 512 then 512 else if n ≤ 1024 then 1024 else if n ≤ 2048 then 2048 else if n ≤ 4096 then 4096 else if n ≤ 8192 then 8192 else if n ≤ 16384 then 16384 else if n ≤ 32768 then 32768 else 65536

theorem ret_two {k l : IntKind} {a b c d : Int} (h : a = b) (g : c = d) : Ending.returned (.tuple #[.int k a, .int l c]) = .returned (.tuple #[.int k b, .int l d]) := by rw [h, g]
theorem ret_int {k : IntKind} {a b : Int} (h : a = b) : Ending.returned (.int k a) = .returned (.int k b) := by rw [h]

theorem ret_bool {a b : Bool} (h : a = b) : Ending.returned (.bool a) = .returned (.bool b) := by rw [h]

theorem bucket_neg (n : Int) (h : n < 0) (w : World) :
    Calls Try.prog 10 #[.int .i64 n] w fun e w' => e = .returned (.tuple #[.int .i64 (bkv n), .int .i64 (bke n)]) ∧ w = w' := by
  go_enter Try.func10, Try.ntmps10
  go_wp2
  go_ret2
  exact ⟨ret_two (by unfold bkv; rw [if_pos h]) (by unfold bke; rw [if_pos h]), rfl⟩

theorem bucket_pos (n : Int) (h : 0 ≤ n) (w : World) :
    Calls Try.prog 10 #[.int .i64 n] w fun e w' => e = .returned (.tuple #[.int .i64 (bkv n), .int .i64 (bke n)]) ∧ w = w' := by
  have hd : decide (n < 0) = false := by simp; omega
  go_enter Try.func10, Try.ntmps10
  go_wp2
  go_loop [8, 4, 5] (fun i _ _ => ∃ k : Nat, k ≤ 6 ∧ i = .int .i64 k ∧ (k = 0 ∨ 64 * 2 ^ (k - 1) ≤ n)) (fun i _ _ => 6 - (intOf i).toNat)
  case atStart => exact ⟨0, by omega, rfl, Or.inl rfl⟩
  case round =>
    obtain ⟨k, hk, rfl, hn⟩ := hrel
    clear hd
    match k, hk with
    | 0, _ =>
      go_wp2
      · go_ret2
        exact ⟨ret_two (by unfold bkv; omega) (by unfold bke; omega), rfl⟩
      · go_round
        case rel => exact ⟨1, by omega, rfl, by simp; omega⟩
        case measure => simp [intOf]
    | 1, _ =>
      go_wp2
      · go_ret2
        exact ⟨ret_two (by unfold bkv; omega) (by unfold bke; omega), rfl⟩
      · go_round
        case rel => exact ⟨2, by omega, rfl, by simp; omega⟩
        case measure => simp [intOf]
    | 2, _ =>
      go_wp2
      · go_ret2
        exact ⟨ret_two (by unfold bkv; omega) (by unfold bke; omega), rfl⟩
      · go_round
        case rel => exact ⟨3, by omega, rfl, by simp; omega⟩
        case measure => simp [intOf]
    | 3, _ =>
      go_wp2
      · go_ret2
        exact ⟨ret_two (by unfold bkv; omega) (by unfold bke; omega), rfl⟩
      · go_round
        case rel => exact ⟨4, by omega, rfl, by simp; omega⟩
        case measure => simp [intOf]
    | 4, _ =>
      go_wp2
      · go_ret2
        exact ⟨ret_two (by unfold bkv; omega) (by unfold bke; omega), rfl⟩
      · go_round
        case rel => exact ⟨5, by omega, rfl, by simp; omega⟩
        case measure => simp [intOf]
    | 5, _ =>
      go_wp2
      · go_ret2
        exact ⟨ret_two (by unfold bkv; omega) (by unfold bke; omega), rfl⟩
      · go_round
        case rel => exact ⟨6, by omega, rfl, by simp; omega⟩
        case measure => simp [intOf]
    | 6, _ =>
      go_wp2
      go_ret2
      exact ⟨ret_two (by unfold bkv; omega) (by unfold bke; omega), rfl⟩

theorem bucket_any (n : Int) (w : World) :
    Calls Try.prog 10 #[.int .i64 n] w fun e w' => e = .returned (.tuple #[.int .i64 (bkv n), .int .i64 (bke n)]) ∧ w = w' := by
  by_cases h : n < 0
  · exact bucket_neg n h w
  · exact bucket_pos n (by omega) w

theorem isb_eq (n k : Int) (hk : k = 64 ∨ k = 128 ∨ k = 256 ∨ k = 512 ∨ k = 1024 ∨ k = 2048) (h : (n == k) = true) : isb n = true := by
  have : n = k := by simpa using h
  subst this
  simp [isb, hk]

theorem is_any (n : Int) (w : World) :
    Calls Try.prog 12 #[.int .i64 n] w fun e w' => e = .returned (.bool (isb n)) ∧ w = w' := by
  go_enter Try.func12, Try.ntmps12
  go_wp2
  go_loop [4, 3] (fun i _ => ∃ k : Nat, k ≤ 6 ∧ i = .int .i64 k ∧ (0 < k → n ≠ 64) ∧ (1 < k → n ≠ 128) ∧ (2 < k → n ≠ 256) ∧ (3 < k → n ≠ 512) ∧ (4 < k → n ≠ 1024) ∧ (5 < k → n ≠ 2048)) (fun i _ => 6 - (intOf i).toNat)
  case atStart => exact ⟨0, by omega, rfl, by omega, by omega, by omega, by omega, by omega, by omega⟩
  case round =>
    obtain ⟨k, hk, rfl, h0, h1, h2, h3, h4, h5⟩ := hrel
    have H := Lib.hid (And.intro h0 (And.intro h1 (And.intro h2 (And.intro h3 (And.intro h4 h5)))))
    clear h0 h1 h2 h3 h4 h5
    match k, hk, H with
    | 0, _, H =>
      by_cases hb : n = 64
      · subst hb
        go_wp2
        go_ret
        exact ⟨ret_bool rfl, rfl⟩
      · have hb' : (n == 64) = false := by simp [hb]
        have Hb := Lib.hid hb
        clear hb
        go_wp2
        go_round
        case rel =>
          have hb := Hb.out
          have h := H.out
          exact ⟨1, by omega, rfl, by omega, by omega, by omega, by omega, by omega, by omega⟩
        case measure => simp [intOf]
    | 1, _, H =>
      by_cases hb : n = 128
      · subst hb
        go_wp2
        go_ret
        exact ⟨ret_bool rfl, rfl⟩
      · have hb' : (n == 128) = false := by simp [hb]
        have Hb := Lib.hid hb
        clear hb
        go_wp2
        go_round
        case rel =>
          have hb := Hb.out
          have h := H.out
          exact ⟨2, by omega, rfl, by omega, by omega, by omega, by omega, by omega, by omega⟩
        case measure => simp [intOf]
    | 2, _, H =>
      by_cases hb : n = 256
      · subst hb
        go_wp2
        go_ret
        exact ⟨ret_bool rfl, rfl⟩
      · have hb' : (n == 256) = false := by simp [hb]
        have Hb := Lib.hid hb
        clear hb
        go_wp2
        go_round
        case rel =>
          have hb := Hb.out
          have h := H.out
          exact ⟨3, by omega, rfl, by omega, by omega, by omega, by omega, by omega, by omega⟩
        case measure => simp [intOf]
    | 3, _, H =>
      by_cases hb : n = 512
      · subst hb
        go_wp2
        go_ret
        exact ⟨ret_bool rfl, rfl⟩
      · have hb' : (n == 512) = false := by simp [hb]
        have Hb := Lib.hid hb
        clear hb
        go_wp2
        go_round
        case rel =>
          have hb := Hb.out
          have h := H.out
          exact ⟨4, by omega, rfl, by omega, by omega, by omega, by omega, by omega, by omega⟩
        case measure => simp [intOf]
    | 4, _, H =>
      by_cases hb : n = 1024
      · subst hb
        go_wp2
        go_ret
        exact ⟨ret_bool rfl, rfl⟩
      · have hb' : (n == 1024) = false := by simp [hb]
        have Hb := Lib.hid hb
        clear hb
        go_wp2
        go_round
        case rel =>
          have hb := Hb.out
          have h := H.out
          exact ⟨5, by omega, rfl, by omega, by omega, by omega, by omega, by omega, by omega⟩
        case measure => simp [intOf]
    | 5, _, H =>
      by_cases hb : n = 2048
      · subst hb
        go_wp2
        go_ret
        exact ⟨ret_bool rfl, rfl⟩
      · have hb' : (n == 2048) = false := by simp [hb]
        have Hb := Lib.hid hb
        clear hb
        go_wp2
        go_round
        case rel =>
          have hb := Hb.out
          have h := H.out
          exact ⟨6, by omega, rfl, by omega, by omega, by omega, by omega, by omega, by omega⟩
        case measure => simp [intOf]
    | 6, _, H =>
      go_wp2
      go_ret
      have h := H.out
      exact ⟨ret_bool (by simp [isb]; omega), rfl⟩

theorem batch_any (n : Int) (w : World) :
    Calls Try.prog 13 #[.int .i64 n] w fun e w' => e = .returned (.int .i64 (bat n)) ∧ w = w' := by
  go_enter Try.func13, Try.ntmps13
  go_wp2
  go_loop [5, 3, 4] (fun i _ _ => ∃ k : Nat, k ≤ 17 ∧ i = .int .i64 k ∧ (k = 0 ∨ 2 ^ (k - 1) < n)) (fun i _ _ => 17 - (intOf i).toNat)
  case atStart => exact ⟨0, by omega, rfl, Or.inl rfl⟩
  case round =>
    obtain ⟨k, hk, rfl, hn⟩ := hrel
    match k, hk with
    | 0, _ =>
      go_wp2
      · go_ret
        exact ⟨ret_int (by unfold bat; omega), rfl⟩
      · go_round
        case rel => exact ⟨1, by omega, rfl, by simp; omega⟩
        case measure => simp [intOf]
    | 1, _ =>
      go_wp2
      · go_ret
        exact ⟨ret_int (by unfold bat; omega), rfl⟩
      · go_round
        case rel => exact ⟨2, by omega, rfl, by simp; omega⟩
        case measure => simp [intOf]
    | 2, _ =>
      go_wp2
      · go_ret
        exact ⟨ret_int (by unfold bat; omega), rfl⟩
      · go_round
        case rel => exact ⟨3, by omega, rfl, by simp; omega⟩
        case measure => simp [intOf]
    | 3, _ =>
      go_wp2
      · go_ret
        exact ⟨ret_int (by unfold bat; omega), rfl⟩
      · go_round
        case rel => exact ⟨4, by omega, rfl, by simp; omega⟩
        case measure => simp [intOf]
    | 4, _ =>
      go_wp2
      · go_ret
        exact ⟨ret_int (by unfold bat; omega), rfl⟩
      · go_round
        case rel => exact ⟨5, by omega, rfl, by simp; omega⟩
        case measure => simp [intOf]
    | 5, _ =>
      go_wp2
      · go_ret
        exact ⟨ret_int (by unfold bat; omega), rfl⟩
      · go_round
        case rel => exact ⟨6, by omega, rfl, by simp; omega⟩
        case measure => simp [intOf]
    | 6, _ =>
      go_wp2
      · go_ret
        exact ⟨ret_int (by unfold bat; omega), rfl⟩
      · go_round
        case rel => exact ⟨7, by omega, rfl, by simp; omega⟩
        case measure => simp [intOf]
    | 7, _ =>
      go_wp2
      · go_ret
        exact ⟨ret_int (by unfold bat; omega), rfl⟩
      · go_round
        case rel => exact ⟨8, by omega, rfl, by simp; omega⟩
        case measure => simp [intOf]
    | 8, _ =>
      go_wp2
      · go_ret
        exact ⟨ret_int (by unfold bat; omega), rfl⟩
      · go_round
        case rel => exact ⟨9, by omega, rfl, by simp; omega⟩
        case measure => simp [intOf]
    | 9, _ =>
      go_wp2
      · go_ret
        exact ⟨ret_int (by unfold bat; omega), rfl⟩
      · go_round
        case rel => exact ⟨10, by omega, rfl, by simp; omega⟩
        case measure => simp [intOf]
    | 10, _ =>
      go_wp2
      · go_ret
        exact ⟨ret_int (by unfold bat; omega), rfl⟩
      · go_round
        case rel => exact ⟨11, by omega, rfl, by simp; omega⟩
        case measure => simp [intOf]
    | 11, _ =>
      go_wp2
      · go_ret
        exact ⟨ret_int (by unfold bat; omega), rfl⟩
      · go_round
        case rel => exact ⟨12, by omega, rfl, by simp; omega⟩
        case measure => simp [intOf]
    | 12, _ =>
      go_wp2
      · go_ret
        exact ⟨ret_int (by unfold bat; omega), rfl⟩
      · go_round
        case rel => exact ⟨13, by omega, rfl, by simp; omega⟩
        case measure => simp [intOf]
    | 13, _ =>
      go_wp2
      · go_ret
        exact ⟨ret_int (by unfold bat; omega), rfl⟩
      · go_round
        case rel => exact ⟨14, by omega, rfl, by simp; omega⟩
        case measure => simp [intOf]
    | 14, _ =>
      go_wp2
      · go_ret
        exact ⟨ret_int (by unfold bat; omega), rfl⟩
      · go_round
        case rel => exact ⟨15, by omega, rfl, by simp; omega⟩
        case measure => simp [intOf]
    | 15, _ =>
      go_wp2
      · go_ret
        exact ⟨ret_int (by unfold bat; omega), rfl⟩
      · go_round
        case rel => exact ⟨16, by omega, rfl, by simp; omega⟩
        case measure => simp [intOf]
    | 16, _ =>
      go_wp2
      · go_ret
        exact ⟨ret_int (by unfold bat; omega), rfl⟩
      · go_round
        case rel => exact ⟨17, by omega, rfl, by simp; omega⟩
        case measure => simp [intOf]
    | 17, _ =>
      go_wp2
      go_ret
      exact ⟨ret_int (by unfold bat; omega), rfl⟩
    | j + 18, hj => exact absurd hj (by omega)

theorem awake6 (w : World) : Calls Try.prog 11 #[] w fun e w' => e = .returned (.bool true) ∧ w = w' := by
  go_enter Try.func11, Try.ntmps11
  go_wp2_with (go_at_call 10; refine (bucket_any _ _).mono ?_; rintro e w' ⟨rfl, rfl⟩)
  go_ret
  exact ⟨ret_bool (by decide +kernel), rfl⟩

theorem refBucket_any (n : Int) (h : 0 ≤ n) (w : World) : Calls Try.prog 14 #[.int .i64 n] w fun e w' => e = .returned (.int .i64 (bkv n)) ∧ Grown w w' := by
  go_enter Try.func14, Try.ntmps14
  go_wp2
  go_loop [4] (fun i => ∃ k : Nat, k ≤ 6 ∧ i = .int .i64 k ∧ (k = 0 ∨ 64 * 2 ^ (k - 1) ≤ n)) (fun i => 6 - (intOf i).toNat)
  case atStart => exact ⟨0, by omega, rfl, Or.inl rfl⟩
  case round =>
    obtain ⟨k, hk, rfl, hn⟩ := hrel
    match k, hk with
    | 0, _ =>
      go_wp2
      · go_ret
        exact ⟨ret_int (by unfold bkv; omega), (Grown.refl _).alloc _ _⟩
      · go_round
        case rel => exact ⟨1, by omega, rfl, by simp; omega⟩
        case measure => simp [intOf]
    | 1, _ =>
      go_wp2
      · go_ret
        exact ⟨ret_int (by unfold bkv; omega), (Grown.refl _).alloc _ _⟩
      · go_round
        case rel => exact ⟨2, by omega, rfl, by simp; omega⟩
        case measure => simp [intOf]
    | 2, _ =>
      go_wp2
      · go_ret
        exact ⟨ret_int (by unfold bkv; omega), (Grown.refl _).alloc _ _⟩
      · go_round
        case rel => exact ⟨3, by omega, rfl, by simp; omega⟩
        case measure => simp [intOf]
    | 3, _ =>
      go_wp2
      · go_ret
        exact ⟨ret_int (by unfold bkv; omega), (Grown.refl _).alloc _ _⟩
      · go_round
        case rel => exact ⟨4, by omega, rfl, by simp; omega⟩
        case measure => simp [intOf]
    | 4, _ =>
      go_wp2
      · go_ret
        exact ⟨ret_int (by unfold bkv; omega), (Grown.refl _).alloc _ _⟩
      · go_round
        case rel => exact ⟨5, by omega, rfl, by simp; omega⟩
        case measure => simp [intOf]
    | 5, _ =>
      go_wp2
      · go_ret
        exact ⟨ret_int (by unfold bkv; omega), (Grown.refl _).alloc _ _⟩
      · go_round
        case rel => exact ⟨6, by omega, rfl, by simp; omega⟩
        case measure => simp [intOf]
    | 6, _ =>
      go_wp2
      go_ret
      exact ⟨ret_int (by unfold bkv; omega), (Grown.refl _).alloc _ _⟩
end Go.Proofs.Ytoeojgdolanggaa
