import Derived.Test.YtoeojgdolanggaaArith
import Derived.Test.YtoeojgdolanggaaPair
import Derived.Laws.Tables
import Derived.Laws.ResultCell
namespace Go.Proofs.Ytoeojgdolanggaa
open Go Go.RowKit

theorem size30 (w : World) : (sizeOf 30).run Try.prog w = .ok 1 w := by kernel_rfl
theorem own_setRow {w : World} {B : Nat} {v : Value} {xs : List Int} (h : Own w B v xs) (g : Nat) (cs : Array Value) (hg : v.ownBlock ≠ some g) : Own (w.setRow g cs) B v xs :=
  h.grown (r := some g) ⟨rfl, rfl, rfl, by simp, fun k _ hr => setRow_other _ _ _ _ (fun e => hr (congrArg some e))⟩ (.inr hg)
theorem int_one (k : IntKind) (n : Int) : (Value.int k n).oneCell' = true := rfl
theorem all3 (f t : Int) (v : Value) (h : v.oneCell' = true) : (#[.int .i64 f, .int .i64 t, v] : Array Value).all (·.oneCell') = true := by simp [h, int_one]
set_option maxHeartbeats 1000000 in
theorem copied_any (w : World) (f t : Int) (a : Option Addr) (n c : Nat) (xs : List Int) (h : Row w a n xs) (hbig : n ≤ 140737488355328) (hnil : a = none → c = 0) :
    Calls Try.prog 30 #[.agg #[.int .i64 f, .int .i64 t, .slice a n c]] w fun e w' => ∃ v, e = .returned (.agg #[.int .i64 f, .int .i64 t, v]) ∧ Own w' w.heap.size v xs ∧ Below w.heap.size w w' ∧ (v = .slice none 0 0 ↔ a = none) := by
  have HR := Lib.hid h
  have HBIG := Lib.hid hbig
  have HN := Lib.hid hnil
  clear h hbig hnil
  go_enter Try.func30, Try.ntmps30
  go_upto_region 1 with (fail)
  obtain ⟨w1, hw1⟩ : ∃ V, V = (w.alloc (.cells #[.int .i64 f, .int .i64 t, .slice a n c] 43)).alloc (.cells #[.int .i64 0, .int .i64 0, .slice none 0 0] 43) := ⟨_, rfl⟩
  rw [← hw1]
  have S1 : Hid (Blk w1 w.heap.size 43 #[.int .i64 f, .int .i64 t, .slice a n c] ∧ Blk w1 (w.heap.size + 1) 43 #[.int .i64 0, .int .i64 0, .slice none 0 0] ∧ Below w.heap.size w w1 ∧ w.heap.size + 1 < w1.heap.size) := Lib.hid (by rw [hw1]; exact ⟨(Blk.new _ _ _).alloc _, Blk.new' _ _ _ _ (by simp), ((Below.refl _ _).alloc (Nat.le_refl _) _).alloc (by simp) _, by simp⟩)
  have CL := Lib.hid (clone_any w1 a n c xs (HR.out.keep S1.out.2.2.1) HBIG.out HN.out)
  have NE : Hid (w.heap.size < w.heap.size + 1) := Lib.hid (by omega)
  clear hw1 HR HBIG HN
  generalize hg1 : w.heap.size = g1 at *
  have HG := Lib.hid hg1
  clear hg1
  generalize g1 + 1 = g2 at *
  go_upto_region 1 with (fail)
  refine wp_region_lit ?_
  refine wpL_pure (.pointer (some ⟨g1, 2, none⟩)) rfl (by kernel_rfl) ?_
  simp only [Act.put, List.setIfInBounds_toArray, List.set_cons_zero, List.set_cons_succ]
  refine wpL_pure (.slice a n c) rfl (run_load_one _ _ _ 30 _ _ rfl g1 2 rfl (by rw [S1.out.1.cell]; rfl) (by kernel_rfl)) ?_
  simp only [Act.put, List.setIfInBounds_toArray, List.set_cons_zero, List.set_cons_succ]
  refine wpL_call 34 #[.slice a n c] rfl (by kernel_rfl) ((CL.out).mono fun e w2 ⟨v, he, q1, q2, q3⟩ => ⟨v, he, ?_⟩)
  simp only [Act.put, List.setIfInBounds_toArray, List.set_cons_zero, List.set_cons_succ]
  have S2 : Hid (Blk w2 g1 43 #[.int .i64 f, .int .i64 t, .slice a n c] ∧ Blk w2 g2 43 #[.int .i64 0, .int .i64 0, .slice none 0 0] ∧ Below g1 w w2 ∧ Own w2 g1 v xs ∧ (v = .slice none 0 0 ↔ a = none) ∧ ∀ k, v.ownBlock = some k → k ≠ g1 ∧ k ≠ g2) := Lib.hid ⟨S1.out.1.below q2, S1.out.2.1.below q2, S1.out.2.2.1.trans (q2.mono (by have := S1.out.2.2.2; have := NE.out; omega)), q1.mono (by have := S1.out.2.2.2; have := NE.out; omega), q3, fun k hk => by have := (q1.lt k hk).1; have h1 := S1.out.1.lt; have h2 := S1.out.2.1.lt; omega⟩
  have ONE : v.oneCell' = true := by obtain ⟨a, c, e⟩ := q1.slice; rw [e]; rfl
  clear q1 q2 q3 CL
  refine wpL_pure (.pointer (some ⟨g1, 2, none⟩)) rfl (by kernel_rfl) ?_
  simp only [Act.put, List.setIfInBounds_toArray, List.set_cons_zero, List.set_cons_succ]
  refine wpL_store_one rfl rfl (g1) (2) rfl (v) rfl ONE size30 (by rw [S2.out.1.cell]; rfl) (S2.out.1.free _) ?_
  simp only [Act.put, List.setIfInBounds_toArray, List.set_cons_zero, List.set_cons_succ]
  obtain ⟨w3, hw3⟩ : ∃ V, V = w2.setCell ⟨g1, 2, none⟩ v := ⟨_, rfl⟩
  rw [← hw3]
  have S3 : Hid (Blk w3 g1 43 #[.int .i64 f, .int .i64 t, v] ∧ Blk w3 g2 43 #[.int .i64 0, .int .i64 0, .slice none 0 0] ∧ Below g1 w w3 ∧ Own w3 g1 v xs) := Lib.hid (by rw [hw3]; exact ⟨Blk.set (l := [.int .i64 f, .int .i64 t, .slice a n c]) S2.out.1 2 v, S2.out.2.1.other ⟨g1, 2, none⟩ v (Ne.symm (Nat.ne_of_lt NE.out)), Below.setCell (p := ⟨g1, 2, none⟩) S2.out.2.2.1 (Nat.le_refl _) _, S2.out.2.2.2.1.other _ _ (fun e => (S2.out.2.2.2.2.2 _ e).1 rfl)⟩)
  have VN := Lib.hid (And.intro S2.out.2.2.2.2.1 (fun e => (S2.out.2.2.2.2.2 g2 e).2 rfl))
  clear hw3 S2 S1
  go_upto_region 2 with (fail)
  refine wp_region_lit ?_
  refine wpL_load 43 _ rfl rfl g1 0 rfl [.int .i64 f, .int .i64 t, v] _ (range_blk (t := 43) S3.out.1) Try.underlying43 rfl (by kernel_rfl) ?_
  simp only [Act.put, List.setIfInBounds_toArray, List.set_cons_zero, List.set_cons_succ]
  refine wpList_store_row rfl 43 _ _ rfl (g2) (#[.int .i64 f, .int .i64 t, v]) rfl rfl _ _ (S3.out.2.1) (by kernel_rfl) rfl (all3 _ _ _ ONE) ?_
  simp only [Act.put, List.setIfInBounds_toArray, List.set_cons_zero, List.set_cons_succ]
  obtain ⟨w4, hw4⟩ : ∃ V, V = w3.setRow g2 #[.int .i64 f, .int .i64 t, v] := ⟨_, rfl⟩
  rw [← hw4]
  have S4 : Hid (Blk w4 g2 43 #[.int .i64 f, .int .i64 t, v] ∧ Below g1 w w4 ∧ Own w4 g1 v xs) := Lib.hid (by rw [hw4]; exact ⟨setRow_heap _ _ _ _ _ _ S3.out.2.1, below_setRow S3.out.2.2.1 (Nat.le_of_lt NE.out) _, own_setRow S3.out.2.2.2 g2 _ VN.out.2⟩)
  clear hw4 S3
  go_wp2_with fail
  exact bodyPost_ret (results_cell_row rfl _ _ g2 43 _ (0, 0) _ rfl S4.out.1 Try.underlying43 rfl (by kernel_rfl)) rfl ⟨v, rfl, by rw [HG.out]; exact S4.out.2.2, by rw [HG.out]; exact S4.out.2.1, VN.out.1⟩
end Go.Proofs.Ytoeojgdolanggaa
