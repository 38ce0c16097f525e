import Derived.Test.YtdoikjjkcehpbaaC6H
namespace Go.Proofs.Ytdoikjjkcehpbaa
open Go.RowKit
theorem forIn_yield (P : Program) (w : World) (n : Nat) (f : Nat → (Option Bool × Unit) → Sem (ForInStep (Option Bool × Unit))) (hf : ∀ i, i < n → (f i (none, ())).run P w = .ok (.yield (none, ())) w) :
    ∀ k i, i + k ≤ n → (forIn (List.range' i k) (none, ()) f : Sem (Option Bool × Unit)).run P w = .ok (none, ()) w
  | 0, i, _ => by simp [go_sem]
  | k + 1, i, h => by
    rw [List.range'_succ, List.forIn_cons, Sem.run_bind, hf i (by omega), Result.andThen_ok]
    exact forIn_yield P w n f hf k (i + 1) (by omega)
set_option maxRecDepth 100000 in
set_option maxHeartbeats 4000000 in
theorem eq35 (L : List Nat) (hl : L.length = 64) (w : World) : (Op.equalIn 10000 35 (.agg (u8b L)) (.agg (u8b L))).run Try.prog w = .ok true w := by
  have u3 := Try.underlying5
  have ia3 := Try.isAgg5
  have z3 := Try.sizeOf5
  rw [show (10000 : Nat) = 9999 + 1 from rfl, Op.equalIn]
  simp only [Sem.run_bind, run_underlying Try.underlying35, Result.andThen_ok]
  simp only [Std.Legacy.Range.forIn_eq_forIn_range', Std.Legacy.Range.size, Nat.sub_zero, Nat.add_sub_cancel, Nat.div_one]
  go_simp
  rw [forIn_yield Try.prog w 64 _ ?_ 64 0 (by omega)]
  · simp [go_sem]
  · intro i hi
    have e : (u8b L)[i]? = some (.int .u8 (L[i]'(by omega) : Nat)) := by simp [u8b, List.getElem?_eq_getElem (show i < L.length by omega)]
    rw [e]
    go_simp
end Go.Proofs.Ytdoikjjkcehpbaa
