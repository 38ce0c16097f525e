import Derived.Test.YtoeojgdolanggaaPadC
namespace Go.Proofs.Ytoeojgdolanggaa
open Go.RowKit

theorem bke_low (n : Int) (h0 : 0 ≤ n) (h1 : n < 2048) : bke n = 0 := by unfold bke; omega
theorem bkv_low (n : Int) (h0 : 0 ≤ n) (h1 : n < 2048) : 64 ≤ bkv n ∧ bkv n ≤ 2048 ∧ n < bkv n ∧ (bkv n = 64 ∨ bkv n / 2 ≤ n) := by unfold bkv; omega
theorem bkv_mono (n m : Int) (h0 : 0 ≤ n) (h : n ≤ m) (h1 : m < 2048) : bkv n ≤ bkv m := by unfold bkv; omega
theorem isb_bkv (n : Int) (h0 : 0 ≤ n) (h1 : n < 2048) : isb (bkv n) = true := by unfold bkv isb; simp; omega
theorem bat_bkv (n : Int) (h0 : 0 ≤ n) (h1 : n < 2048) : bat (bkv n) = bkv n := by
  have : bkv n = 64 ∨ bkv n = 128 ∨ bkv n = 256 ∨ bkv n = 512 ∨ bkv n = 1024 ∨ bkv n = 2048 := by unfold bkv; omega
  rcases this with h | h | h | h | h | h <;> rw [h] <;> rfl

theorem bucket_low (n : Int) (w : World) (h0 : 0 ≤ n) (h1 : n < 2048) :
    Calls Try.prog 10 #[.int .i64 n] w fun e w' => e = .returned (.tuple #[.int .i64 (bkv n), .int .i64 0]) ∧ w = w' := by
  have h := bucket_any n w
  rw [bke_low n h0 h1] at h
  exact h
theorem bkv_set (n : Int) (h0 : 0 ≤ n) (h1 : n < 2048) : bkv n = 64 ∨ bkv n = 128 ∨ bkv n = 256 ∨ bkv n = 512 ∨ bkv n = 1024 ∨ bkv n = 2048 := by unfold bkv; omega
theorem is_set (n : Int) (w : World) (h : n = 64 ∨ n = 128 ∨ n = 256 ∨ n = 512 ∨ n = 1024 ∨ n = 2048) :
    Calls Try.prog 12 #[.int .i64 n] w fun e w' => e = .returned (.bool true) ∧ w = w' := by
  have h' := is_any n w
  rw [show isb n = true from by simp [isb, h]] at h'
  exact h'
theorem batch_set (n : Int) (w : World) (h : n = 64 ∨ n = 128 ∨ n = 256 ∨ n = 512 ∨ n = 1024 ∨ n = 2048) :
    Calls Try.prog 13 #[.int .i64 n] w fun e w' => e = .returned (.int .i64 n) ∧ w = w' := by
  have h' := batch_any n w
  rw [show bat n = n from by rcases h with h | h | h | h | h | h <;> rw [h] <;> rfl] at h'
  exact h'
end Go.Proofs.Ytoeojgdolanggaa
