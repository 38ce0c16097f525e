import Derived.Test.YtdhpgadhdgpbdaaG14
import Derived.Laws.StructEq
namespace Go.Proofs.Ytdhpgadhdgpbdaa
open Go.RowKit

theorem forIn_yield (P : Program) (w : World) (n : Nat) (f : Nat → (Option Bool × Unit) → Sem (ForInStep (Option Bool × Unit))) (hf : ∀ i, i < n → (f i (none, ())).run P w = .ok (.yield (none, ())) w) :
    ∀ k i, i + k ≤ n → (forIn (List.range' i k) (none, ()) f : Sem (Option Bool × Unit)).run P w = .ok (none, ()) w
  | 0, i, _ => by simp [go_sem]
  | k + 1, i, h => by
    rw [List.range'_succ, List.forIn_cons, Sem.run_bind, hf i (by omega), Result.andThen_ok]
    exact forIn_yield P w n f hf k (i + 1) (by omega)
theorem eq25 (d : Nat) (M : Nat → Bool) (w : World) : (Op.equalIn (d + 1 + 1) 25 (.agg (six6 M).toArray) (.agg (six6 M).toArray)).run Try.prog w = .ok true w := by
  have u3 := Try.underlying4
  have ia3 := Try.isAgg4
  have z3 := Try.sizeOf4
  rw [Op.equalIn]
  simp only [Sem.run_bind, run_underlying Try.underlying25, Result.andThen_ok]
  simp only [Std.Legacy.Range.forIn_eq_forIn_range', Std.Legacy.Range.size, Nat.sub_zero, Nat.add_sub_cancel, Nat.div_one]
  go_simp
  rw [forIn_yield Try.prog w 6 _ ?_ 6 0 (by omega)]
  · simp [go_sem]
  · intro i hi
    rcases six hi with rfl | rfl | rfl | rfl | rfl | rfl
    all_goals
      simp only [six6]
      go_simp
def six64 (C : Nat → Int) : List Value := [.int .u64 (C 0), .int .u64 (C 1), .int .u64 (C 2), .int .u64 (C 3), .int .u64 (C 4), .int .u64 (C 5)]
theorem eq26 (d : Nat) (C : Nat → Int) (w : World) : (Op.equalIn (d + 1 + 1) 26 (.agg (six64 C).toArray) (.agg (six64 C).toArray)).run Try.prog w = .ok true w := by
  have u3 := Try.underlying23
  have ia3 := Try.isAgg23
  have z3 := Try.sizeOf23
  rw [Op.equalIn]
  simp only [Sem.run_bind, run_underlying Try.underlying26, Result.andThen_ok]
  simp only [Std.Legacy.Range.forIn_eq_forIn_range', Std.Legacy.Range.size, Nat.sub_zero, Nat.add_sub_cancel, Nat.div_one]
  go_simp
  rw [forIn_yield Try.prog w 6 _ ?_ 6 0 (by omega)]
  · simp [go_sem]
  · intro i hi
    rcases six hi with rfl | rfl | rfl | rfl | rfl | rfl
    all_goals
      simp only [six64]
      go_simp
theorem eq28 (g : Grp) (w : World) : (Op.equalIn 10000 28 (.agg g.cells.toArray) (.agg g.cells.toArray)).run Try.prog w = .ok true w := by
  have h25 := eq25 9997
  have h26 := eq26 9997
  have hf : (Try.prog.fieldsOf 28).toList = [{ name := "Owner", type := 3, offset := 0, embedded := false, tag := "", pkgPath := "", byteOffset := 0 },
        { name := "Epoch", type := 3, offset := 1, embedded := false, tag := "", pkgPath := "", byteOffset := 8 },
        { name := "Members", type := 25, offset := 2, embedded := false, tag := "", pkgPath := "", byteOffset := 16 },
        { name := "Gone", type := 25, offset := 8, embedded := false, tag := "", pkgPath := "", byteOffset := 22 },
        { name := "Cut", type := 26, offset := 14, embedded := false, tag := "", pkgPath := "", byteOffset := 32 },
        { name := "Seen", type := 3, offset := 20, embedded := false, tag := "", pkgPath := "", byteOffset := 80 }] := by kernel_rfl
  have p0 : (part 3 g.cells.toArray 0).run Try.prog w = .ok (.int .i64 g.o) w := by kernel_rfl
  have p1 : (part 3 g.cells.toArray 1).run Try.prog w = .ok (.int .i64 g.e) w := by kernel_rfl
  have p2 : (part 25 g.cells.toArray 2).run Try.prog w = .ok (.agg (six6 g.M).toArray) w := by kernel_rfl
  have p8 : (part 25 g.cells.toArray 8).run Try.prog w = .ok (.agg (six6 g.G).toArray) w := by kernel_rfl
  have p14 : (part 26 g.cells.toArray 14).run Try.prog w = .ok (.agg (six64 g.C).toArray) w := by kernel_rfl
  have p20 : (part 3 g.cells.toArray 20).run Try.prog w = .ok (.int .i64 g.s) w := by kernel_rfl
  have u3 := Try.underlying3
  have e3 : ∀ x : Int, (Op.equalIn (9997 + 1 + 1) 3 (.int .i64 x) (.int .i64 x)).run Try.prog w = .ok true w := fun x => by
    rw [run_equalIn_int _ _ _ _ _ _ _ Try.underlying3]
    simp
  rw [show (10000 : Nat) = 9997 + 1 + 1 + 1 from rfl, run_equalIn_struct _ _ _ _ _ (by kernel_rfl) (by kernel_rfl), hf]
  simp [Op.eqFields, Sem.run_bind, p0, p1, p2, p8, p14, p20, e3, eq25, eq26]
end Go.Proofs.Ytdhpgadhdgpbdaa
