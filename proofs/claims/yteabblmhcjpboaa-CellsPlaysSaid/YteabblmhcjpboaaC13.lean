/- A log is opened. -/
import Derived.Test.YteabblmhcjpboaaC12
namespace Go.Proofs.Yteabblmhcjpboaa.D
open Go Go.RowKit
set_option maxRecDepth 100000
def stepH (rm : Nat) (X : List Int) (k : Nat) (h : Nat × Nat × List Int) : Nat × Nat × List Int := if (whole X && (fitB rm (srl X) (cntL X) k && decide (h.1 ≤ srl X))) = true then (srl X, cntL X, nteL X) else h
def hk (rm : Nat) (S : List (List Int)) (fr : Nat) : Nat → Nat × Nat × List Int
  | 0 => (0, 0, List.replicate 16 0)
  | k + 1 => stepH rm (S.getD (fr + k) []) k (hk rm S fr k)
theorem hk_cnt (rm : Nat) (S : List (List Int)) (fr : Nat) : ∀ k, (hk rm S fr k).2.1 ≤ rm * 64
  | 0 => Nat.zero_le _
  | k + 1 => by
    rw [hk, stepH]
    split
    · rename_i q
      rw [Bool.and_eq_true, Bool.and_eq_true] at q
      have f := q.2.1
      rw [fitB, Bool.and_eq_true] at f
      exact of_decide_eq_true f.2
    · exact hk_cnt rm S fr k
theorem hk_two {rm fr : Nat} {S : List (List Int)} {X0 X1 : List Int} (h0 : S[fr]? = some X0) (h1 : S[fr + 1]? = some X1) : hk rm S fr 2 = opH rm X0 X1 := by
  rw [hk, hk, hk, getD_some h1, Nat.add_zero, getD_some h0]
  have e : stepH rm X0 0 (0, 0, List.replicate 16 0) = opA rm X0 := by
    unfold stepH opA
    simp
  rw [e]; rfl
def roomL (S : List (List Int)) (fr : Nat) : Nat → List Int
  | 0 => []
  | i + 1 => roomL S fr i ++ S.getD (fr + 2 + i) []
theorem roomL_len {S : List (List Int)} {fr : Nat} : ∀ {i : Nat}, (∀ j, j < i → ∃ s, S[fr + 2 + j]? = some s ∧ SOk s) → (roomL S fr i).length = 64 * i
  | 0, _ => rfl
  | i + 1, h => by
    obtain ⟨s, hs, ho⟩ := h i (by omega)
    rw [roomL, List.length_append, roomL_len (fun j hj => h j (by omega)), getD_some hs, ho.1]; omega
theorem roomL_get {S : List (List Int)} {fr : Nat} : ∀ {i : Nat}, (∀ j, j < i → ∃ s, S[fr + 2 + j]? = some s ∧ SOk s) → ∀ j, j < 64 * i → (roomL S fr i).getD j 0 = bt S ((fr + 2) * 64 + j)
  | 0, _, j, hj => by omega
  | i + 1, h, j, hj => by
    have l := roomL_len (i := i) (fun j hj => h j (by omega))
    obtain ⟨s, hs, ho⟩ := h i (by omega)
    rw [roomL, getD_app, l]
    by_cases q : j < 64 * i
    · rw [if_pos q]; exact roomL_get (fun j hj => h j (by omega)) j q
    · rw [if_neg q, getD_some hs, show (fr + 2) * 64 + j = (fr + 2 + i) * 64 + (j - 64 * i) by omega, bt_get hs _ (by omega)]
theorem own_form {w : World} {B : Nat} {a : Option Addr} {n c : Nat} {xs : List Int} (h : Own w B (.slice a n c) xs) : (a = none ∧ n = 0 ∧ c = 0) ∨ ∃ g, a = some ⟨g, 0, none⟩ ∧ n ≤ c ∧ c < 9223372036854775808 := by
  rcases h.form with ⟨q, _⟩ | ⟨g, _, _, q, _, _, h4, h5, _⟩
  · simp only [Value.slice.injEq] at q; exact .inl q
  · simp only [Value.slice.injEq] at q
    obtain ⟨rfl, rfl, rfl⟩ := q
    exact .inr ⟨g, rfl, h4, by unfold maxLen at h5; omega⟩
theorem run_sltou (a : Act) (o : Oper) (w : World) (x i : Operand) (ad : Option Addr) (n c k : Nat) (hf : (ad = none ∧ n = 0 ∧ c = 0) ∨ ∃ g, ad = some ⟨g, 0, none⟩ ∧ n ≤ c ∧ c < 9223372036854775808) (ho : o.op = .slice 26 x none (some i) none) (hx : a.eval x = .slice ad n c) (hi : a.eval i = .int .u64 ((k : Nat) : Int)) (hk : k ≤ n) : (execOp a.eval o).run Try.prog w = .ok (.value (.slice ad k c)) w := by
  rcases hf with ⟨rfl, rfl, rfl⟩ | ⟨g, rfl, h1, h2⟩
  · obtain rfl : k = 0 := by omega
    unfold execOp
    simp only [ho, hx, Option.map_some, Option.map_none, hi]
    go_simp
    try rfl
  · have j0 : (0 : Int) ≤ (k : Int) := by omega
    have j1 : (k : Int) ≤ (c : Int) := by omega
    unfold execOp
    simp only [ho, hx, Option.map_some, Option.map_none, hi]
    go_simp
theorem own_take {w : World} {B : Nat} {a : Option Addr} {n c k : Nat} {xs : List Int} (h : Own w B (.slice a n c) xs) (hk : k ≤ n) : Own w B (.slice a k c) (xs.take k) := by
  rcases h.form with ⟨q, rfl⟩ | ⟨g, cap, cur, q, hB, hg, h4, h5, h6, h7⟩
  · simp only [Value.slice.injEq] at q
    obtain ⟨rfl, rfl, rfl⟩ := q
    obtain rfl : k = 0 := by omega
    exact Own.nil _ _
  · simp only [Value.slice.injEq] at q
    obtain ⟨rfl, rfl, rfl⟩ := q
    refine ⟨⟨?_, .inr ⟨g, c, cur, ?_, hB, hg, by rw [List.length_take]; omega, h5, by omega, ?_⟩⟩, fun x hx => h.2 x (List.mem_of_mem_take hx)⟩
    · simp
    · rw [List.length_take, Nat.min_eq_left hk]
    · rw [List.length_take, Nat.min_eq_left hk, Nat.mul_one, List.map_take, ← h7, List.take_take, Nat.min_eq_left hk]
def OpPost (b fr rm : Nat) (S : List (List Int)) (w : World) (e : Ending) (w' : World) : Prop :=
  ∃ (lb s : Nat) (nt bs : List Int) (va : Option Addr) (vc : Nat), e = .returned (.tuple #[.pointer (some ⟨lb, 0, none⟩), .int .i64 0]) ∧ LS w' lb b fr rm s bs.length nt (.slice va bs.length vc) false ∧ Own w' 0 (.slice va bs.length vc) bs ∧ OpenIs S fr rm s nt bs ∧ bs.length ≤ rm * 64 ∧ Below w.heap.size w w' ∧ w.heap.size ≤ lb ∧ ∀ k, (Value.slice va bs.length vc).ownBlock = some k → w.heap.size ≤ k ∧ k ≠ lb
theorem op_post {w w' : World} {lb b fr rm s cn : Nat} {nt bs : List Int} {va : Option Addr} {vc : Nat} {S : List (List Int)} (hl : w.heap.size = lb) (bb : Below w.heap.size w w') (h : LS w' lb b fr rm s cn nt (.slice va cn vc) false) (o : Own w' (lb + 1) (.slice va cn vc) bs) (hc : bs.length = cn) (hm : cn ≤ rm * 64) (op : OpenIs S fr rm s nt bs) : OpPost b fr rm S w (.returned (.tuple #[.pointer (some ⟨lb, 0, none⟩), .int .i64 0])) w' := by
  subst hc
  exact ⟨lb, s, nt, bs, va, vc, rfl, h, o.mono (Nat.zero_le _), op, hm, bb, Nat.le_of_eq hl, fun k hk => by have := (o.lt k hk).1; omega⟩
theorem open_of {w : World} {b gs gm n fr rm s cn i dc : Nat} {nt : List Int} {L : List (Int × List Int × Nat)} {S : List (List Int)} {fu : Bool} {fz : Int} (d : DS w b gs gm n L dc S fu fz false) (hn : fr + 2 + rm ≤ n) (h : hk rm S fr 2 = (s, cn, nt)) (hl : ((roomL S fr i).take cn).length = cn) (hc : cn ≤ 64 * i) (hi : i ≤ rm) : OpenIs S fr rm s nt ((roomL S fr i).take cn) := by
  obtain ⟨X0, h0, _⟩ := d.at (show fr < n by omega)
  obtain ⟨X1, h1, _⟩ := d.at (show fr + 1 < n by omega)
  rw [hk_two h0 h1] at h
  refine ⟨⟨X0, X1, h0, h1, by rw [h, hl]⟩, fun j hj => ?_⟩
  rw [hl] at hj
  rw [getD_take' _ hj, roomL_get (fun k hk => d.at (by omega)) j (by omega)]
attribute [local irreducible] wpList
set_option maxHeartbeats 8000000
theorem open_bad {w : World} {b gs gm n dc : Nat} {L : List (Int × List Int × Nat)} {S : List (List Int)} {fu : Bool} {fz : Int} (d : DS w b gs gm n L dc S fu fz false) (fr_ sc : Int) (hr : (-9223372036854775808 ≤ fr_ ∧ fr_ ≤ 9223372036854775807) ∧ -9223372036854775808 ≤ sc ∧ sc ≤ 9223372036854775807) (hbad : ¬ (3 ≤ sc ∧ 0 ≤ fr_ ∧ fr_ + sc ≤ (n : Int))) : Calls Try.prog 10 #[.pointer (some ⟨b, 0, none⟩), .int .i64 fr_, .int .i64 sc] w fun e w' => e = .returned (.tuple #[.pointer none, .int .i64 1]) ∧ w = w' := by
  have D := Lib.hid d
  have HNN : Hid (n ≤ 200 ∧ (-9223372036854775808 ≤ fr_ ∧ fr_ ≤ 9223372036854775807) ∧ -9223372036854775808 ≤ sc ∧ sc ≤ 9223372036854775807) := Lib.hid ⟨d.2.2.2.2.1, hr⟩
  have HBAD := Lib.hid hbad
  clear d hbad hr
  go_enter Try.func10, Try.ntmps10
  go_upto_region 0 with (fail)
  refine wp_region_lit ?_
  refine wpL_pure (.pointer none) rfl (by kernel_rfl) ?_
  simp only [Act.put, List.setIfInBounds_toArray, List.set_cons_zero, List.set_cons_succ]
  refine wpL_pure (.int .i64 0) rfl (by kernel_rfl) ?_
  simp only [Act.put, List.setIfInBounds_toArray, List.set_cons_zero, List.set_cons_succ]
  by_cases h1 : sc ≤ 2
  · have F := Lib.hid h1
    clear h1
    go_upto_region 1 with (fail)
    refine wp_region_lit ?_
    refine wpL_pure (.int .i64 sc) rfl (by kernel_rfl) ?_
    simp only [Act.put, List.setIfInBounds_toArray, List.set_cons_zero, List.set_cons_succ]
    refine wpL_pure (.bool true) rfl (run_lei Try.underlying3 rfl rfl rfl (by have := F.out; rw [decide_eq_true_eq]; omega)) ?_
    simp only [Act.put, List.setIfInBounds_toArray, List.set_cons_zero, List.set_cons_succ]
    refine wpL_pure (.bool true) rfl (by kernel_rfl) ?_
    simp only [Act.put, List.setIfInBounds_toArray, List.set_cons_zero, List.set_cons_succ]
    refine wpL_skip (by kernel_rfl) ?_
    simp only [Act.put, List.setIfInBounds_toArray, List.set_cons_zero, List.set_cons_succ]
    refine wpL_skip (by kernel_rfl) ?_
    simp only [Act.put, List.setIfInBounds_toArray, List.set_cons_zero, List.set_cons_succ]
    refine wpL_pure (.bool true) rfl (by kernel_rfl) ?_
    simp only [Act.put, List.setIfInBounds_toArray, List.set_cons_zero, List.set_cons_succ]
    refine wpL_pure (.bool true) rfl (by kernel_rfl) ?_
    simp only [Act.put, List.setIfInBounds_toArray, List.set_cons_zero, List.set_cons_succ]
    refine wpL_skip (by kernel_rfl) ?_
    simp only [Act.put, List.setIfInBounds_toArray, List.set_cons_zero, List.set_cons_succ]
    refine wpL_skip (by kernel_rfl) ?_
    simp only [Act.put, List.setIfInBounds_toArray, List.set_cons_zero, List.set_cons_succ]
    refine wpL_skip (by kernel_rfl) ?_
    simp only [Act.put, List.setIfInBounds_toArray, List.set_cons_zero, List.set_cons_succ]
    refine wpL_skip (by kernel_rfl) ?_
    simp only [Act.put, List.setIfInBounds_toArray, List.set_cons_zero, List.set_cons_succ]
    refine wpL_pure (.bool true) rfl (by kernel_rfl) ?_
    simp only [Act.put, List.setIfInBounds_toArray, List.set_cons_zero, List.set_cons_succ]
    refine wpL_pure (.bool true) rfl (by kernel_rfl) ?_
    simp only [Act.put, List.setIfInBounds_toArray, List.set_cons_zero, List.set_cons_succ]
    refine wpL_skip (by kernel_rfl) ?_
    simp only [Act.put, List.setIfInBounds_toArray, List.set_cons_zero, List.set_cons_succ]
    refine wpL_skip (by kernel_rfl) ?_
    simp only [Act.put, List.setIfInBounds_toArray, List.set_cons_zero, List.set_cons_succ]
    refine wpL_skip (by kernel_rfl) ?_
    simp only [Act.put, List.setIfInBounds_toArray, List.set_cons_zero, List.set_cons_succ]
    refine wpL_skip (by kernel_rfl) ?_
    simp only [Act.put, List.setIfInBounds_toArray, List.set_cons_zero, List.set_cons_succ]
    refine wpL_skip (by kernel_rfl) ?_
    simp only [Act.put, List.setIfInBounds_toArray, List.set_cons_zero, List.set_cons_succ]
    refine wpL_skip (by kernel_rfl) ?_
    simp only [Act.put, List.setIfInBounds_toArray, List.set_cons_zero, List.set_cons_succ]
    refine wpL_pure (.bool true) rfl (by kernel_rfl) ?_
    simp only [Act.put, List.setIfInBounds_toArray, List.set_cons_zero, List.set_cons_succ]
    go_upto_region 2 with (fail)
    refine wp_region_lit ?_
    refine wpL_pure (.pointer none) rfl (by kernel_rfl) ?_
    simp only [Act.put, List.setIfInBounds_toArray, List.set_cons_zero, List.set_cons_succ]
    refine wpL_pure (.int .i64 1) rfl (by kernel_rfl) ?_
    simp only [Act.put, List.setIfInBounds_toArray, List.set_cons_zero, List.set_cons_succ]
    go_wp2_with fail
    go_ret2
    exact ⟨rfl, rfl⟩
  · by_cases h2 : fr_ < 0
    · have F := Lib.hid (And.intro h1 h2)
      clear h1 h2
      go_upto_region 1 with (fail)
      refine wp_region_lit ?_
      refine wpL_pure (.int .i64 sc) rfl (by kernel_rfl) ?_
      simp only [Act.put, List.setIfInBounds_toArray, List.set_cons_zero, List.set_cons_succ]
      refine wpL_pure (.bool false) rfl (run_lei Try.underlying3 rfl rfl rfl (by have := F.out; rw [decide_eq_false_iff_not]; omega)) ?_
      simp only [Act.put, List.setIfInBounds_toArray, List.set_cons_zero, List.set_cons_succ]
      refine wpL_pure (.bool false) rfl (by kernel_rfl) ?_
      simp only [Act.put, List.setIfInBounds_toArray, List.set_cons_zero, List.set_cons_succ]
      refine wpL_pure (.int .i64 fr_) rfl (by kernel_rfl) ?_
      simp only [Act.put, List.setIfInBounds_toArray, List.set_cons_zero, List.set_cons_succ]
      refine wpL_pure (.bool true) rfl (run_lti Try.underlying3 rfl rfl rfl (by have := F.out; rw [decide_eq_true_eq]; omega)) ?_
      simp only [Act.put, List.setIfInBounds_toArray, List.set_cons_zero, List.set_cons_succ]
      refine wpL_pure (.bool true) rfl (by kernel_rfl) ?_
      simp only [Act.put, List.setIfInBounds_toArray, List.set_cons_zero, List.set_cons_succ]
      refine wpL_pure (.bool true) rfl (by kernel_rfl) ?_
      simp only [Act.put, List.setIfInBounds_toArray, List.set_cons_zero, List.set_cons_succ]
      refine wpL_skip (by kernel_rfl) ?_
      simp only [Act.put, List.setIfInBounds_toArray, List.set_cons_zero, List.set_cons_succ]
      refine wpL_skip (by kernel_rfl) ?_
      simp only [Act.put, List.setIfInBounds_toArray, List.set_cons_zero, List.set_cons_succ]
      refine wpL_skip (by kernel_rfl) ?_
      simp only [Act.put, List.setIfInBounds_toArray, List.set_cons_zero, List.set_cons_succ]
      refine wpL_skip (by kernel_rfl) ?_
      simp only [Act.put, List.setIfInBounds_toArray, List.set_cons_zero, List.set_cons_succ]
      refine wpL_pure (.bool true) rfl (by kernel_rfl) ?_
      simp only [Act.put, List.setIfInBounds_toArray, List.set_cons_zero, List.set_cons_succ]
      refine wpL_pure (.bool true) rfl (by kernel_rfl) ?_
      simp only [Act.put, List.setIfInBounds_toArray, List.set_cons_zero, List.set_cons_succ]
      refine wpL_skip (by kernel_rfl) ?_
      simp only [Act.put, List.setIfInBounds_toArray, List.set_cons_zero, List.set_cons_succ]
      refine wpL_skip (by kernel_rfl) ?_
      simp only [Act.put, List.setIfInBounds_toArray, List.set_cons_zero, List.set_cons_succ]
      refine wpL_skip (by kernel_rfl) ?_
      simp only [Act.put, List.setIfInBounds_toArray, List.set_cons_zero, List.set_cons_succ]
      refine wpL_skip (by kernel_rfl) ?_
      simp only [Act.put, List.setIfInBounds_toArray, List.set_cons_zero, List.set_cons_succ]
      refine wpL_skip (by kernel_rfl) ?_
      simp only [Act.put, List.setIfInBounds_toArray, List.set_cons_zero, List.set_cons_succ]
      refine wpL_skip (by kernel_rfl) ?_
      simp only [Act.put, List.setIfInBounds_toArray, List.set_cons_zero, List.set_cons_succ]
      refine wpL_pure (.bool true) rfl (by kernel_rfl) ?_
      simp only [Act.put, List.setIfInBounds_toArray, List.set_cons_zero, List.set_cons_succ]
      go_upto_region 2 with (fail)
      refine wp_region_lit ?_
      refine wpL_pure (.pointer none) rfl (by kernel_rfl) ?_
      simp only [Act.put, List.setIfInBounds_toArray, List.set_cons_zero, List.set_cons_succ]
      refine wpL_pure (.int .i64 1) rfl (by kernel_rfl) ?_
      simp only [Act.put, List.setIfInBounds_toArray, List.set_cons_zero, List.set_cons_succ]
      go_wp2_with fail
      go_ret2
      exact ⟨rfl, rfl⟩
    · by_cases h3 : (n : Int) < sc
      · have F := Lib.hid (And.intro h1 (And.intro h2 h3))
        clear h1 h2 h3
        go_upto_region 1 with (fail)
        refine wp_region_lit ?_
        refine wpL_pure (.int .i64 sc) rfl (by kernel_rfl) ?_
        simp only [Act.put, List.setIfInBounds_toArray, List.set_cons_zero, List.set_cons_succ]
        refine wpL_pure (.bool false) rfl (run_lei Try.underlying3 rfl rfl rfl (by have := F.out; rw [decide_eq_false_iff_not]; omega)) ?_
        simp only [Act.put, List.setIfInBounds_toArray, List.set_cons_zero, List.set_cons_succ]
        refine wpL_pure (.bool false) rfl (by kernel_rfl) ?_
        simp only [Act.put, List.setIfInBounds_toArray, List.set_cons_zero, List.set_cons_succ]
        refine wpL_pure (.int .i64 fr_) rfl (by kernel_rfl) ?_
        simp only [Act.put, List.setIfInBounds_toArray, List.set_cons_zero, List.set_cons_succ]
        refine wpL_pure (.bool false) rfl (run_lti Try.underlying3 rfl rfl rfl (by have := F.out; rw [decide_eq_false_iff_not]; omega)) ?_
        simp only [Act.put, List.setIfInBounds_toArray, List.set_cons_zero, List.set_cons_succ]
        refine wpL_pure (.bool false) rfl (by kernel_rfl) ?_
        simp only [Act.put, List.setIfInBounds_toArray, List.set_cons_zero, List.set_cons_succ]
        refine wpL_pure (.bool false) rfl (by kernel_rfl) ?_
        simp only [Act.put, List.setIfInBounds_toArray, List.set_cons_zero, List.set_cons_succ]
        refine wpL_pure (.int .i64 sc) rfl (by kernel_rfl) ?_
        simp only [Act.put, List.setIfInBounds_toArray, List.set_cons_zero, List.set_cons_succ]
        refine wpL_pure (.pointer (some ⟨b, 0, none⟩)) rfl (by kernel_rfl) ?_
        simp only [Act.put, List.setIfInBounds_toArray, List.set_cons_zero, List.set_cons_succ]
        refine wpL_call 29 #[.pointer (some ⟨b, 0, none⟩)] rfl (by kernel_rfl) ((secD D.out).mono fun e X ⟨he, hx⟩ => ⟨.int .i64 (n : Int), he, ?_⟩)
        simp only [Act.put, List.setIfInBounds_toArray, List.set_cons_zero, List.set_cons_succ]
        subst hx
        refine wpL_pure (.bool true) rfl (run_gti Try.underlying3 rfl rfl rfl (by have := F.out; have := HNN.out; rw [decide_eq_true_eq]; omega)) ?_
        simp only [Act.put, List.setIfInBounds_toArray, List.set_cons_zero, List.set_cons_succ]
        refine wpL_pure (.bool true) rfl (by kernel_rfl) ?_
        simp only [Act.put, List.setIfInBounds_toArray, List.set_cons_zero, List.set_cons_succ]
        refine wpL_pure (.bool true) rfl (by kernel_rfl) ?_
        simp only [Act.put, List.setIfInBounds_toArray, List.set_cons_zero, List.set_cons_succ]
        refine wpL_skip (by kernel_rfl) ?_
        simp only [Act.put, List.setIfInBounds_toArray, List.set_cons_zero, List.set_cons_succ]
        refine wpL_skip (by kernel_rfl) ?_
        simp only [Act.put, List.setIfInBounds_toArray, List.set_cons_zero, List.set_cons_succ]
        refine wpL_skip (by kernel_rfl) ?_
        simp only [Act.put, List.setIfInBounds_toArray, List.set_cons_zero, List.set_cons_succ]
        refine wpL_skip (by kernel_rfl) ?_
        simp only [Act.put, List.setIfInBounds_toArray, List.set_cons_zero, List.set_cons_succ]
        refine wpL_skip (by kernel_rfl) ?_
        simp only [Act.put, List.setIfInBounds_toArray, List.set_cons_zero, List.set_cons_succ]
        refine wpL_skip (by kernel_rfl) ?_
        simp only [Act.put, List.setIfInBounds_toArray, List.set_cons_zero, List.set_cons_succ]
        refine wpL_pure (.bool true) rfl (by kernel_rfl) ?_
        simp only [Act.put, List.setIfInBounds_toArray, List.set_cons_zero, List.set_cons_succ]
        go_upto_region 2 with (fail)
        refine wp_region_lit ?_
        refine wpL_pure (.pointer none) rfl (by kernel_rfl) ?_
        simp only [Act.put, List.setIfInBounds_toArray, List.set_cons_zero, List.set_cons_succ]
        refine wpL_pure (.int .i64 1) rfl (by kernel_rfl) ?_
        simp only [Act.put, List.setIfInBounds_toArray, List.set_cons_zero, List.set_cons_succ]
        go_wp2_with fail
        go_ret2
        exact ⟨rfl, rfl⟩
      · have F : Hid (¬ sc ≤ 2 ∧ ¬ fr_ < 0 ∧ ¬ (n : Int) < sc ∧ (n : Int) - sc < fr_) := Lib.hid ⟨h1, h2, h3, by have := HBAD.out; omega⟩
        clear h1 h2 h3
        go_upto_region 1 with (fail)
        refine wp_region_lit ?_
        refine wpL_pure (.int .i64 sc) rfl (by kernel_rfl) ?_
        simp only [Act.put, List.setIfInBounds_toArray, List.set_cons_zero, List.set_cons_succ]
        refine wpL_pure (.bool false) rfl (run_lei Try.underlying3 rfl rfl rfl (by have := F.out; rw [decide_eq_false_iff_not]; omega)) ?_
        simp only [Act.put, List.setIfInBounds_toArray, List.set_cons_zero, List.set_cons_succ]
        refine wpL_pure (.bool false) rfl (by kernel_rfl) ?_
        simp only [Act.put, List.setIfInBounds_toArray, List.set_cons_zero, List.set_cons_succ]
        refine wpL_pure (.int .i64 fr_) rfl (by kernel_rfl) ?_
        simp only [Act.put, List.setIfInBounds_toArray, List.set_cons_zero, List.set_cons_succ]
        refine wpL_pure (.bool false) rfl (run_lti Try.underlying3 rfl rfl rfl (by have := F.out; rw [decide_eq_false_iff_not]; omega)) ?_
        simp only [Act.put, List.setIfInBounds_toArray, List.set_cons_zero, List.set_cons_succ]
        refine wpL_pure (.bool false) rfl (by kernel_rfl) ?_
        simp only [Act.put, List.setIfInBounds_toArray, List.set_cons_zero, List.set_cons_succ]
        refine wpL_pure (.bool false) rfl (by kernel_rfl) ?_
        simp only [Act.put, List.setIfInBounds_toArray, List.set_cons_zero, List.set_cons_succ]
        refine wpL_pure (.int .i64 sc) rfl (by kernel_rfl) ?_
        simp only [Act.put, List.setIfInBounds_toArray, List.set_cons_zero, List.set_cons_succ]
        refine wpL_pure (.pointer (some ⟨b, 0, none⟩)) rfl (by kernel_rfl) ?_
        simp only [Act.put, List.setIfInBounds_toArray, List.set_cons_zero, List.set_cons_succ]
        refine wpL_call 29 #[.pointer (some ⟨b, 0, none⟩)] rfl (by kernel_rfl) ((secD D.out).mono fun e X ⟨he, hx⟩ => ⟨.int .i64 (n : Int), he, ?_⟩)
        simp only [Act.put, List.setIfInBounds_toArray, List.set_cons_zero, List.set_cons_succ]
        subst hx
        refine wpL_pure (.bool false) rfl (run_gti Try.underlying3 rfl rfl rfl (by have := F.out; have := HNN.out; rw [decide_eq_false_iff_not]; omega)) ?_
        simp only [Act.put, List.setIfInBounds_toArray, List.set_cons_zero, List.set_cons_succ]
        refine wpL_pure (.bool false) rfl (by kernel_rfl) ?_
        simp only [Act.put, List.setIfInBounds_toArray, List.set_cons_zero, List.set_cons_succ]
        refine wpL_pure (.bool false) rfl (by kernel_rfl) ?_
        simp only [Act.put, List.setIfInBounds_toArray, List.set_cons_zero, List.set_cons_succ]
        refine wpL_pure (.int .i64 fr_) rfl (by kernel_rfl) ?_
        simp only [Act.put, List.setIfInBounds_toArray, List.set_cons_zero, List.set_cons_succ]
        refine wpL_pure (.pointer (some ⟨b, 0, none⟩)) rfl (by kernel_rfl) ?_
        simp only [Act.put, List.setIfInBounds_toArray, List.set_cons_zero, List.set_cons_succ]
        refine wpL_call 29 #[.pointer (some ⟨b, 0, none⟩)] rfl (by kernel_rfl) ((secD D.out).mono fun e X ⟨he, hx⟩ => ⟨.int .i64 (n : Int), he, ?_⟩)
        simp only [Act.put, List.setIfInBounds_toArray, List.set_cons_zero, List.set_cons_succ]
        subst hx
        refine wpL_pure (.int .i64 sc) rfl (by kernel_rfl) ?_
        simp only [Act.put, List.setIfInBounds_toArray, List.set_cons_zero, List.set_cons_succ]
        refine wpL_pure (.int .i64 ((n : Int) - sc)) rfl (run_subi Try.underlying3 rfl rfl rfl _ (by have := HNN.out; have := F.out; rw [wrap_in _ (by omega) (by omega)])) ?_
        simp only [Act.put, List.setIfInBounds_toArray, List.set_cons_zero, List.set_cons_succ]
        refine wpL_pure (.bool true) rfl (run_gti Try.underlying3 rfl rfl rfl (by have := F.out; have := HNN.out; rw [decide_eq_true_eq]; omega)) ?_
        simp only [Act.put, List.setIfInBounds_toArray, List.set_cons_zero, List.set_cons_succ]
        refine wpL_pure (.bool true) rfl (by kernel_rfl) ?_
        simp only [Act.put, List.setIfInBounds_toArray, List.set_cons_zero, List.set_cons_succ]
        go_upto_region 2 with (fail)
        refine wp_region_lit ?_
        refine wpL_pure (.pointer none) rfl (by kernel_rfl) ?_
        simp only [Act.put, List.setIfInBounds_toArray, List.set_cons_zero, List.set_cons_succ]
        refine wpL_pure (.int .i64 1) rfl (by kernel_rfl) ?_
        simp only [Act.put, List.setIfInBounds_toArray, List.set_cons_zero, List.set_cons_succ]
        go_wp2_with fail
        go_ret2
        exact ⟨rfl, rfl⟩
theorem open_any {w : World} {b gs gm n dc : Nat} {L : List (Int × List Int × Nat)} {S : List (List Int)} {fu : Bool} {fz : Int} (d : DS w b gs gm n L dc S fu fz false) (fr rm : Nat) (hrm : 1 ≤ rm) (hn : fr + (rm + 2) ≤ n) : Calls Try.prog 10 #[.pointer (some ⟨b, 0, none⟩), .int .i64 ((fr : Nat) : Int), .int .i64 ((rm + 2 : Nat) : Int)] w fun e w' => OpPost b fr rm S w e w' := by
  have D := Lib.hid d
  have F : Hid ((fr + (rm + 2) ≤ n ∧ n ≤ 200) ∧ 1 ≤ rm ∧ fr ≤ 1000 ∧ rm ≤ 1000) := Lib.hid (by have := d.2.2.2.2.1; omega)
  clear d hrm hn
  go_enter Try.func10, Try.ntmps10
  go_upto_region 0 with (fail)
  refine wp_region_lit ?_
  refine wpL_pure (.pointer none) rfl (by kernel_rfl) ?_
  simp only [Act.put, List.setIfInBounds_toArray, List.set_cons_zero, List.set_cons_succ]
  refine wpL_pure (.int .i64 0) rfl (by kernel_rfl) ?_
  simp only [Act.put, List.setIfInBounds_toArray, List.set_cons_zero, List.set_cons_succ]
  go_upto_region 1 with (fail)
  refine wp_region_lit ?_
  refine wpL_pure (.int .i64 ((rm + 2 : Nat) : Int)) rfl (by kernel_rfl) ?_
  simp only [Act.put, List.setIfInBounds_toArray, List.set_cons_zero, List.set_cons_succ]
  refine wpL_pure (.bool false) rfl (run_lei Try.underlying3 rfl rfl rfl (by have := F.out; rw [decide_eq_false_iff_not]; omega)) ?_
  simp only [Act.put, List.setIfInBounds_toArray, List.set_cons_zero, List.set_cons_succ]
  refine wpL_pure (.bool false) rfl (by kernel_rfl) ?_
  simp only [Act.put, List.setIfInBounds_toArray, List.set_cons_zero, List.set_cons_succ]
  refine wpL_pure (.int .i64 ((fr : Nat) : Int)) rfl (by kernel_rfl) ?_
  simp only [Act.put, List.setIfInBounds_toArray, List.set_cons_zero, List.set_cons_succ]
  refine wpL_pure (.bool false) rfl (run_lti Try.underlying3 rfl rfl rfl (by have := F.out; rw [decide_eq_false_iff_not]; omega)) ?_
  simp only [Act.put, List.setIfInBounds_toArray, List.set_cons_zero, List.set_cons_succ]
  refine wpL_pure (.bool false) rfl (by kernel_rfl) ?_
  simp only [Act.put, List.setIfInBounds_toArray, List.set_cons_zero, List.set_cons_succ]
  refine wpL_pure (.bool false) rfl (by kernel_rfl) ?_
  simp only [Act.put, List.setIfInBounds_toArray, List.set_cons_zero, List.set_cons_succ]
  refine wpL_pure (.int .i64 ((rm + 2 : Nat) : Int)) rfl (by kernel_rfl) ?_
  simp only [Act.put, List.setIfInBounds_toArray, List.set_cons_zero, List.set_cons_succ]
  refine wpL_pure (.pointer (some ⟨b, 0, none⟩)) rfl (by kernel_rfl) ?_
  simp only [Act.put, List.setIfInBounds_toArray, List.set_cons_zero, List.set_cons_succ]
  refine wpL_call 29 #[.pointer (some ⟨b, 0, none⟩)] rfl (by kernel_rfl) ((secD D.out).mono fun e X ⟨he, hx⟩ => ⟨.int .i64 (n : Int), he, ?_⟩)
  simp only [Act.put, List.setIfInBounds_toArray, List.set_cons_zero, List.set_cons_succ]
  subst hx
  refine wpL_pure (.bool false) rfl (run_gti Try.underlying3 rfl rfl rfl (by have := F.out; rw [decide_eq_false_iff_not]; omega)) ?_
  simp only [Act.put, List.setIfInBounds_toArray, List.set_cons_zero, List.set_cons_succ]
  refine wpL_pure (.bool false) rfl (by kernel_rfl) ?_
  simp only [Act.put, List.setIfInBounds_toArray, List.set_cons_zero, List.set_cons_succ]
  refine wpL_pure (.bool false) rfl (by kernel_rfl) ?_
  simp only [Act.put, List.setIfInBounds_toArray, List.set_cons_zero, List.set_cons_succ]
  refine wpL_pure (.int .i64 ((fr : Nat) : Int)) rfl (by kernel_rfl) ?_
  simp only [Act.put, List.setIfInBounds_toArray, List.set_cons_zero, List.set_cons_succ]
  refine wpL_pure (.pointer (some ⟨b, 0, none⟩)) rfl (by kernel_rfl) ?_
  simp only [Act.put, List.setIfInBounds_toArray, List.set_cons_zero, List.set_cons_succ]
  refine wpL_call 29 #[.pointer (some ⟨b, 0, none⟩)] rfl (by kernel_rfl) ((secD D.out).mono fun e X ⟨he, hx⟩ => ⟨.int .i64 (n : Int), he, ?_⟩)
  simp only [Act.put, List.setIfInBounds_toArray, List.set_cons_zero, List.set_cons_succ]
  subst hx
  refine wpL_pure (.int .i64 ((rm + 2 : Nat) : Int)) rfl (by kernel_rfl) ?_
  simp only [Act.put, List.setIfInBounds_toArray, List.set_cons_zero, List.set_cons_succ]
  refine wpL_pure (.int .i64 ((n - (rm + 2) : Nat) : Int)) rfl (run_subi Try.underlying3 rfl rfl rfl _ (by have := F.out; rw [wrap_in _ (by omega) (by omega)]; omega)) ?_
  simp only [Act.put, List.setIfInBounds_toArray, List.set_cons_zero, List.set_cons_succ]
  refine wpL_pure (.bool false) rfl (run_gti Try.underlying3 rfl rfl rfl (by have := F.out; rw [decide_eq_false_iff_not]; omega)) ?_
  simp only [Act.put, List.setIfInBounds_toArray, List.set_cons_zero, List.set_cons_succ]
  refine wpL_pure (.bool false) rfl (by kernel_rfl) ?_
  simp only [Act.put, List.setIfInBounds_toArray, List.set_cons_zero, List.set_cons_succ]
  go_upto_region 3 with (fail)
  refine wp_region_lit ?_
  refine wpL_pure (.pointer (some ⟨b, 0, none⟩)) rfl (by kernel_rfl) ?_
  simp only [Act.put, List.setIfInBounds_toArray, List.set_cons_zero, List.set_cons_succ]
  refine wpL_pure (.int .i64 ((fr : Nat) : Int)) rfl (by kernel_rfl) ?_
  simp only [Act.put, List.setIfInBounds_toArray, List.set_cons_zero, List.set_cons_succ]
  refine wpL_pure (.int .i64 ((rm + 2 : Nat) : Int)) rfl (by kernel_rfl) ?_
  simp only [Act.put, List.setIfInBounds_toArray, List.set_cons_zero, List.set_cons_succ]
  refine wpL_pure (.int .i64 (rm : Int)) rfl (run_subi Try.underlying3 rfl rfl rfl _ (by have := F.out; rw [wrap_in _ (by omega) (by omega)]; omega)) ?_
  simp only [Act.put, List.setIfInBounds_toArray, List.set_cons_zero, List.set_cons_succ]
  refine wpL_pure (.agg (lgV b fr rm 0 0 (List.replicate 16 0) (.slice none 0 0) false).toArray) rfl (by kernel_rfl) ?_
  simp only [Act.put, List.setIfInBounds_toArray, List.set_cons_zero, List.set_cons_succ]
  obtain ⟨W1, hW1⟩ : ∃ V, V = w.alloc (.cells (lgV b fr rm 0 0 (List.replicate 16 0) (.slice none 0 0) false).toArray 66) := ⟨_, rfl⟩
  refine wpL_value (.pointer (some ⟨w.heap.size, 0, none⟩)) W1 rfl (by rw [hW1]; kernel_rfl) ?_
  simp only [Act.put, List.setIfInBounds_toArray, List.set_cons_zero, List.set_cons_succ]
  obtain ⟨lb, hlb⟩ : ∃ q, w.heap.size = q := ⟨_, rfl⟩
  have F1 : Hid (Below w.heap.size w W1 ∧ LS W1 lb b fr rm 0 0 (List.replicate 16 0) (.slice none 0 0) false ∧ DS W1 b gs gm n L dc S fu fz false) := Lib.hid (by have bb : Below w.heap.size w W1 := (by rw [hW1]; exact (Below.refl _ _).alloc (Nat.le_refl _) _); exact ⟨bb, ⟨by rw [hW1, ← hlb]; exact Blk.new _ _ _, ⟨by simp, fun x hx => by rw [List.eq_of_mem_replicate hx]; omega⟩, by unfold U64; omega, by unfold U64; omega, F.out.2.2.1, F.out.2.2.2⟩, D.out.below bb⟩)
  have LB := Lib.hid hlb
  rw [hlb]
  clear hW1 hlb
  refine wpL_pure (.pointer (some ⟨lb, 0, none⟩)) rfl (by kernel_rfl) ?_
  simp only [Act.put, List.setIfInBounds_toArray, List.set_cons_zero, List.set_cons_succ]
  go_upto_region 4 with (fail)
  refine wp_region_lit ?_
  refine wpL_pure (.int .i64 0) rfl (by kernel_rfl) ?_
  simp only [Act.put, List.setIfInBounds_toArray, List.set_cons_zero, List.set_cons_succ]
  unfold wpList
  go_wp2_with fail
  go_loopw [43] (fun s43 wr => ∃ k : Nat, s43 = .int .i64 (k : Int) ∧ Hid (k ≤ 2 ∧ Below w.heap.size w wr ∧ LS wr lb b fr rm (hk rm S fr k).1 (hk rm S fr k).2.1 (hk rm S fr k).2.2 (.slice none 0 0) false ∧ DS wr b gs gm n L dc S fu fz false)) (fun s43 _ => 2 - (intOf s43).toNat)
  case atStart => exact ⟨0, rfl, Lib.hid ⟨by omega, F1.out⟩⟩
  case round =>
    obtain ⟨k, rfl, RI0⟩ := hrel
    have RI := Lib.hid RI0.out.2
    have RK := Lib.hid RI0.out.1
    clear RI0
    by_cases hlt : k < 2
    · have HK := Lib.hid hlt
      clear hlt
      obtain ⟨s, hs⟩ : ∃ q, (hk rm S fr k).1 = q := ⟨_, rfl⟩
      obtain ⟨c, hc⟩ : ∃ q, (hk rm S fr k).2.1 = q := ⟨_, rfl⟩
      obtain ⟨nt, hnt⟩ : ∃ q, (hk rm S fr k).2.2 = q := ⟨_, rfl⟩
      have HH : Hid (hk rm S fr k = (s, c, nt)) := Lib.hid (by rw [← hs, ← hc, ← hnt])
      rw [hs, hc, hnt] at RI
      clear hs hc hnt
      go_upto_region 5 with (fail)
      refine wp_region_lit ?_
      refine wpL_pure (.bool true) rfl (run_lti Try.underlying3 rfl rfl rfl (by have := HK.out; rw [decide_eq_true_eq]; omega)) ?_
      simp only [Act.put, List.setIfInBounds_toArray, List.set_cons_zero, List.set_cons_succ]
      go_upto_region 6 with (fail)
      refine wp_region_lit ?_
      refine wpL_pure (.int .i64 (k : Int)) rfl (by kernel_rfl) ?_
      simp only [Act.put, List.setIfInBounds_toArray, List.set_cons_zero, List.set_cons_succ]
      refine wpL_pure (.int .i64 (k : Int)) rfl (by kernel_rfl) ?_
      simp only [Act.put, List.setIfInBounds_toArray, List.set_cons_zero, List.set_cons_succ]
      go_upto_region 7 with (fail)
      refine wp_region_lit ?_
      refine wpL_pure (.pointer (some ⟨b, 0, none⟩)) rfl (by kernel_rfl) ?_
      simp only [Act.put, List.setIfInBounds_toArray, List.set_cons_zero, List.set_cons_succ]
      refine wpL_pure (.int .i64 ((fr : Nat) : Int)) rfl (by kernel_rfl) ?_
      simp only [Act.put, List.setIfInBounds_toArray, List.set_cons_zero, List.set_cons_succ]
      refine wpL_pure (.int .i64 (k : Int)) rfl (by kernel_rfl) ?_
      simp only [Act.put, List.setIfInBounds_toArray, List.set_cons_zero, List.set_cons_succ]
      refine wpL_pure (.int .i64 ((fr + k : Nat) : Int)) rfl (run_addi Try.underlying3 rfl rfl rfl _ (by have := F.out; have := HK.out; rw [wrap_in _ (by omega) (by omega)]; omega)) ?_
      simp only [Act.put, List.setIfInBounds_toArray, List.set_cons_zero, List.set_cons_succ]
      refine wpL_call 30 #[.pointer (some ⟨b, 0, none⟩), .int .i64 ((fr + k : Nat) : Int)] rfl (by kernel_rfl) ((read_in RI.out.2.2 (fr + k) (by have := F.out; have := HK.out; omega)).mono ?_)
      rintro e W5 ⟨xs, v9, hO, he, ho, bb⟩
      have OO : Hid (SOk xs) := Lib.hid (RI.out.2.2.2.2.2.2.2.1 xs (List.mem_of_getElem? hO))
      obtain ⟨g9, c9, e9, r9, k9, l9, m9⟩ := own_slice64 ho OO.out.1
      subst e9
      have F5 : Hid ((Below w.heap.size w W5 ∧ LS W5 lb b fr rm s c nt (.slice none 0 0) false ∧ DS W5 b gs gm n L dc S fu fz false) ∧ Row W5 (some ⟨g9, 0, none⟩) 64 xs) := Lib.hid ⟨⟨RI.out.1.trans (bb.mono RI.out.1.size), RI.out.2.1.below bb, RI.out.2.2.below bb⟩, r9⟩
      have HO := Lib.hid hO
      have C9 : Hid (64 ≤ c9 ∧ c9 < 9223372036854775808) := Lib.hid ⟨k9, l9⟩
      clear hO bb ho r9 k9 l9 m9
      refine ⟨.tuple #[.slice (some ⟨g9, 0, none⟩) 64 c9, .int .i64 0], he, ?_⟩
      simp only [Act.put, List.setIfInBounds_toArray, List.set_cons_zero, List.set_cons_succ]
      clear he
      refine wpL_pure (.tuple #[.slice (some ⟨g9, 0, none⟩) 64 c9, .int .i64 0]) rfl (by kernel_rfl) ?_
      simp only [Act.put, List.setIfInBounds_toArray, List.set_cons_zero, List.set_cons_succ]
      refine wpL_pure (.slice (some ⟨g9, 0, none⟩) 64 c9) rfl (by kernel_rfl) ?_
      simp only [Act.put, List.setIfInBounds_toArray, List.set_cons_zero, List.set_cons_succ]
      refine wpL_pure (.int .i64 0) rfl (by kernel_rfl) ?_
      simp only [Act.put, List.setIfInBounds_toArray, List.set_cons_zero, List.set_cons_succ]
      refine wpL_pure (.slice (some ⟨g9, 0, none⟩) 64 c9) rfl (by kernel_rfl) ?_
      simp only [Act.put, List.setIfInBounds_toArray, List.set_cons_zero, List.set_cons_succ]
      refine wpL_pure (.int .i64 0) rfl (by kernel_rfl) ?_
      simp only [Act.put, List.setIfInBounds_toArray, List.set_cons_zero, List.set_cons_succ]
      go_upto_region 8 with (fail)
      refine wp_region_lit ?_
      refine wpL_pure (.int .i64 0) rfl (by kernel_rfl) ?_
      simp only [Act.put, List.setIfInBounds_toArray, List.set_cons_zero, List.set_cons_succ]
      refine wpL_pure (.bool false) rfl (by kernel_rfl) ?_
      simp only [Act.put, List.setIfInBounds_toArray, List.set_cons_zero, List.set_cons_succ]
      have NXX := Lib.hid (nte_ok OO.out)
      have NX16 : Hid ((nteL xs).length = 16) := Lib.hid NXX.out.1
      have UU : Hid (U64 (srl xs) ∧ U64 (cntL xs)) := Lib.hid ⟨srl_lt OO.out.2, cnt_lt OO.out.2⟩
      obtain ⟨wb, hwb⟩ : ∃ q, whole xs = q := ⟨_, rfl⟩
      have HW := Lib.hid hwb
      clear hwb
      cases wb
      · go_upto_region 10 with (fail)
        refine wp_region_lit ?_
        refine wpL_pure (.slice (some ⟨g9, 0, none⟩) 64 c9) rfl (by kernel_rfl) ?_
        simp only [Act.put, List.setIfInBounds_toArray, List.set_cons_zero, List.set_cons_succ]
        refine wpL_call 31 #[.slice (some ⟨g9, 0, none⟩) 64 c9] rfl (by kernel_rfl) ((parse_any _ g9 0 c9 xs F5.out.2 C9.out).mono fun e W6 ⟨he, bb⟩ => ⟨.tuple #[.agg (hdV 0 0 (List.replicate 16 0)).toArray, .bool false], he.trans (by rw [HW.out]; rfl), ?_⟩)
        simp only [Act.put, List.setIfInBounds_toArray, List.set_cons_zero, List.set_cons_succ]
        have F6 : Hid (Below w.heap.size w W6 ∧ LS W6 lb b fr rm s c nt (.slice none 0 0) false ∧ DS W6 b gs gm n L dc S fu fz false) := Lib.hid ⟨F5.out.1.1.trans (bb.mono F5.out.1.1.size), F5.out.1.2.1.below bb, F5.out.1.2.2.below bb⟩
        clear bb F5
        refine wpL_pure (.tuple #[.agg (hdV 0 0 (List.replicate 16 0)).toArray, .bool false]) rfl (by kernel_rfl) ?_
        simp only [Act.put, List.setIfInBounds_toArray, List.set_cons_zero, List.set_cons_succ]
        refine wpL_pure (.agg (hdV 0 0 (List.replicate 16 0)).toArray) rfl (by kernel_rfl) ?_
        simp only [Act.put, List.setIfInBounds_toArray, List.set_cons_zero, List.set_cons_succ]
        refine wpL_pure (.bool false) rfl (by kernel_rfl) ?_
        simp only [Act.put, List.setIfInBounds_toArray, List.set_cons_zero, List.set_cons_succ]
        obtain ⟨W7, hW7⟩ : ∃ V, V = W6.alloc (.cells (hdV 0 0 (List.replicate 16 0)).toArray 64) := ⟨_, rfl⟩
        refine wpL_value (.pointer (some ⟨W6.heap.size, 0, none⟩)) W7 rfl (by rw [hW7]; kernel_rfl) ?_
        simp only [Act.put, List.setIfInBounds_toArray, List.set_cons_zero, List.set_cons_succ]
        obtain ⟨g7, hg7⟩ : ∃ q, W6.heap.size = q := ⟨_, rfl⟩
        have F7 : Hid ((Below w.heap.size w W7 ∧ LS W7 lb b fr rm s c nt (.slice none 0 0) false ∧ DS W7 b gs gm n L dc S fu fz false) ∧ Blk W7 g7 64 (hdV 0 0 (List.replicate 16 0)).toArray ∧ w.heap.size ≤ g7 ∧ lb ≠ g7 ∧ b ≠ g7 ∧ gs ≠ g7 ∧ gm ≠ g7) := Lib.hid (by have bb : Below W6.heap.size W6 W7 := (by rw [hW7]; exact (Below.refl _ _).alloc (Nat.le_refl _) _); have l3 := F6.out.2.2.lts; have l1 := F6.out.2.1.1.lt; have l0 := F6.out.1.size; exact ⟨⟨F6.out.1.trans (bb.mono F6.out.1.size), F6.out.2.1.below bb, F6.out.2.2.below bb⟩, by rw [hW7, ← hg7]; exact Blk.new _ _ _, by omega, by omega, by omega, by omega, by omega⟩)
        rw [hg7]
        clear hW7 hg7 F6
        refine wpList_store_row rfl 64 _ _ rfl g7 (hdV 0 0 (List.replicate 16 0)).toArray rfl rfl 64 _ (F7.out.2.1) (by simp only [List.size_toArray, hdV, List.length_cons, List.length_map, List.length_replicate, NX16.out] <;> kernel_rfl) (by simp only [List.size_toArray, hdV, List.length_cons, List.length_map, List.length_replicate, NX16.out] <;> rfl) (hd_one _ _ _) ?_
        simp only [Act.put, List.setIfInBounds_toArray, List.set_cons_zero, List.set_cons_succ]
        obtain ⟨W8, hW8⟩ : ∃ V, V = W7.setRow g7 (hdV 0 0 (List.replicate 16 0)).toArray := ⟨_, rfl⟩
        rw [← hW8]
        have F8 : Hid ((Below w.heap.size w W8 ∧ LS W8 lb b fr rm s c nt (.slice none 0 0) false ∧ DS W8 b gs gm n L dc S fu fz false) ∧ Blk W8 g7 64 (hdV 0 0 (List.replicate 16 0)).toArray) := Lib.hid (by have sr := row_gb W7 g7 (hdV 0 0 (List.replicate 16 0)).toArray; have bw : Below w.heap.size w W8 := (by rw [hW8]; exact below_setRow F7.out.1.1 F7.out.2.2.1 _); rw [← hW8] at sr; exact ⟨⟨bw, F7.out.1.2.1.grown sr F7.out.2.2.2.1.symm, ds_far F7.out.1.2.2 sr F7.out.2.2.2.2⟩, by rw [hW8]; exact setRow_heap _ _ _ _ _ _ F7.out.2.1⟩)
        clear hW8 F7
        refine wpL_pure (.bool false) rfl (by kernel_rfl) ?_
        simp only [Act.put, List.setIfInBounds_toArray, List.set_cons_zero, List.set_cons_succ]
        go_upto_region 11 with (fail)
        refine region_anyT (fun X => (Below w.heap.size w X ∧ LS X lb b fr rm s c nt (.slice none 0 0) false ∧ DS X b gs gm n L dc S fu fz false) ∧ Blk X g7 64 (hdV 0 0 (List.replicate 16 0)).toArray) (by kernel_rfl) 17 17 rfl ?_
        refine wpAnyT_take (i := 0) (oi := ⟨some 62, _, _, _, _, _⟩) (v := .bool false) rfl (by kernel_rfl) (by kernel_rfl) (by kernel_rfl) (fun _ _ _ h => h) (by kernel_rfl) (Or.inl ⟨rfl, fun w h => by kernel_rfl⟩) (⟨⟨F8.out.1.1.drew, F8.out.1.2.1, F8.out.1.2.2⟩, F8.out.2⟩) ?_
        simp only [Act.put, List.setIfInBounds_toArray, List.set_cons_zero, List.set_cons_succ]
        refine wpAnyT_take (i := 1) (oi := ⟨some 63, _, _, _, _, _⟩) (v := .bool false) rfl (by kernel_rfl) (by kernel_rfl) (by kernel_rfl) (fun _ _ _ h => h) (by kernel_rfl) (Or.inl ⟨rfl, fun w h => by kernel_rfl⟩) (⟨⟨F8.out.1.1.drew, F8.out.1.2.1, F8.out.1.2.2⟩, F8.out.2⟩) ?_
        simp only [Act.put, List.setIfInBounds_toArray, List.set_cons_zero, List.set_cons_succ]
        refine wpAnyT_take (i := 2) (oi := ⟨some 64, _, _, _, _, _⟩) (v := undef) rfl (by kernel_rfl) (by kernel_rfl) (by kernel_rfl) (fun _ _ _ h => h) (by kernel_rfl) (Or.inr ⟨rfl, rfl⟩) (⟨⟨F8.out.1.1.drew, F8.out.1.2.1, F8.out.1.2.2⟩, F8.out.2⟩) ?_
        simp only [Act.put, List.setIfInBounds_toArray, List.set_cons_zero, List.set_cons_succ]
        refine wpAnyT_take (i := 3) (oi := ⟨some 65, _, _, _, _, _⟩) (v := undef) rfl (by kernel_rfl) (by kernel_rfl) (by kernel_rfl) (fun _ _ _ h => h) (by kernel_rfl) (Or.inr ⟨rfl, rfl⟩) (⟨⟨F8.out.1.1.drew, F8.out.1.2.1, F8.out.1.2.2⟩, F8.out.2⟩) ?_
        simp only [Act.put, List.setIfInBounds_toArray, List.set_cons_zero, List.set_cons_succ]
        refine wpAnyT_take (i := 4) (oi := ⟨some 66, _, _, _, _, _⟩) (v := undef) rfl (by kernel_rfl) (by kernel_rfl) (by kernel_rfl) (fun _ _ _ h => h) (by kernel_rfl) (Or.inr ⟨rfl, rfl⟩) (⟨⟨F8.out.1.1.drew, F8.out.1.2.1, F8.out.1.2.2⟩, F8.out.2⟩) ?_
        simp only [Act.put, List.setIfInBounds_toArray, List.set_cons_zero, List.set_cons_succ]
        refine wpAnyT_take (i := 5) (oi := ⟨some 67, _, _, _, _, _⟩) (v := undef) rfl (by kernel_rfl) (by kernel_rfl) (by kernel_rfl) (fun _ _ _ h => h) (by kernel_rfl) (Or.inr ⟨rfl, rfl⟩) (⟨⟨F8.out.1.1.drew, F8.out.1.2.1, F8.out.1.2.2⟩, F8.out.2⟩) ?_
        simp only [Act.put, List.setIfInBounds_toArray, List.set_cons_zero, List.set_cons_succ]
        refine wpAnyT_take (i := 6) (oi := ⟨some 68, _, _, _, _, _⟩) (v := .bool false) rfl (by kernel_rfl) (by kernel_rfl) (by kernel_rfl) (fun _ _ _ h => h) (by kernel_rfl) (Or.inl ⟨rfl, fun w h => by kernel_rfl⟩) (⟨⟨F8.out.1.1.drew, F8.out.1.2.1, F8.out.1.2.2⟩, F8.out.2⟩) ?_
        simp only [Act.put, List.setIfInBounds_toArray, List.set_cons_zero, List.set_cons_succ]
        refine wpAnyT_take (i := 7) (oi := ⟨some 69, _, _, _, _, _⟩) (v := .bool false) rfl (by kernel_rfl) (by kernel_rfl) (by kernel_rfl) (fun _ _ _ h => h) (by kernel_rfl) (Or.inl ⟨rfl, fun w h => by kernel_rfl⟩) (⟨⟨F8.out.1.1.drew, F8.out.1.2.1, F8.out.1.2.2⟩, F8.out.2⟩) ?_
        simp only [Act.put, List.setIfInBounds_toArray, List.set_cons_zero, List.set_cons_succ]
        refine wpAnyT_take (i := 8) (oi := ⟨some 70, _, _, _, _, _⟩) (v := undef) rfl (by kernel_rfl) (by kernel_rfl) (by kernel_rfl) (fun _ _ _ h => h) (by kernel_rfl) (Or.inr ⟨rfl, rfl⟩) (⟨⟨F8.out.1.1.drew, F8.out.1.2.1, F8.out.1.2.2⟩, F8.out.2⟩) ?_
        simp only [Act.put, List.setIfInBounds_toArray, List.set_cons_zero, List.set_cons_succ]
        refine wpAnyT_take (i := 9) (oi := ⟨some 71, _, _, _, _, _⟩) (v := undef) rfl (by kernel_rfl) (by kernel_rfl) (by kernel_rfl) (fun _ _ _ h => h) (by kernel_rfl) (Or.inr ⟨rfl, rfl⟩) (⟨⟨F8.out.1.1.drew, F8.out.1.2.1, F8.out.1.2.2⟩, F8.out.2⟩) ?_
        simp only [Act.put, List.setIfInBounds_toArray, List.set_cons_zero, List.set_cons_succ]
        refine wpAnyT_take (i := 10) (oi := ⟨some 72, _, _, _, _, _⟩) (v := undef) rfl (by kernel_rfl) (by kernel_rfl) (by kernel_rfl) (fun _ _ _ h => h) (by kernel_rfl) (Or.inr ⟨rfl, rfl⟩) (⟨⟨F8.out.1.1.drew, F8.out.1.2.1, F8.out.1.2.2⟩, F8.out.2⟩) ?_
        simp only [Act.put, List.setIfInBounds_toArray, List.set_cons_zero, List.set_cons_succ]
        refine wpAnyT_take (i := 11) (oi := ⟨some 73, _, _, _, _, _⟩) (v := undef) rfl (by kernel_rfl) (by kernel_rfl) (by kernel_rfl) (fun _ _ _ h => h) (by kernel_rfl) (Or.inr ⟨rfl, rfl⟩) (⟨⟨F8.out.1.1.drew, F8.out.1.2.1, F8.out.1.2.2⟩, F8.out.2⟩) ?_
        simp only [Act.put, List.setIfInBounds_toArray, List.set_cons_zero, List.set_cons_succ]
        refine wpAnyT_take (i := 12) (oi := ⟨some 74, _, _, _, _, _⟩) (v := undef) rfl (by kernel_rfl) (by kernel_rfl) (by kernel_rfl) (fun _ _ _ h => h) (by kernel_rfl) (Or.inr ⟨rfl, rfl⟩) (⟨⟨F8.out.1.1.drew, F8.out.1.2.1, F8.out.1.2.2⟩, F8.out.2⟩) ?_
        simp only [Act.put, List.setIfInBounds_toArray, List.set_cons_zero, List.set_cons_succ]
        refine wpAnyT_take (i := 13) (oi := ⟨some 75, _, _, _, _, _⟩) (v := undef) rfl (by kernel_rfl) (by kernel_rfl) (by kernel_rfl) (fun _ _ _ h => h) (by kernel_rfl) (Or.inr ⟨rfl, rfl⟩) (⟨⟨F8.out.1.1.drew, F8.out.1.2.1, F8.out.1.2.2⟩, F8.out.2⟩) ?_
        simp only [Act.put, List.setIfInBounds_toArray, List.set_cons_zero, List.set_cons_succ]
        refine wpAnyT_take (i := 14) (oi := ⟨some 76, _, _, _, _, _⟩) (v := undef) rfl (by kernel_rfl) (by kernel_rfl) (by kernel_rfl) (fun _ _ _ h => h) (by kernel_rfl) (Or.inr ⟨rfl, rfl⟩) (⟨⟨F8.out.1.1.drew, F8.out.1.2.1, F8.out.1.2.2⟩, F8.out.2⟩) ?_
        simp only [Act.put, List.setIfInBounds_toArray, List.set_cons_zero, List.set_cons_succ]
        refine wpAnyT_take (i := 15) (oi := ⟨some 77, _, _, _, _, _⟩) (v := undef) rfl (by kernel_rfl) (by kernel_rfl) (by kernel_rfl) (fun _ _ _ h => h) (by kernel_rfl) (Or.inr ⟨rfl, rfl⟩) (⟨⟨F8.out.1.1.drew, F8.out.1.2.1, F8.out.1.2.2⟩, F8.out.2⟩) ?_
        simp only [Act.put, List.setIfInBounds_toArray, List.set_cons_zero, List.set_cons_succ]
        refine wpAnyT_take (i := 16) (oi := ⟨some 78, _, _, _, _, _⟩) (v := .bool false) rfl (by kernel_rfl) (by kernel_rfl) (by kernel_rfl) (fun _ _ _ h => h) (by kernel_rfl) (Or.inl ⟨rfl, fun w h => by kernel_rfl⟩) (⟨⟨F8.out.1.1.drew, F8.out.1.2.1, F8.out.1.2.2⟩, F8.out.2⟩) ?_
        simp only [Act.put, List.setIfInBounds_toArray, List.set_cons_zero, List.set_cons_succ]
        refine wpAnyT_done (by kernel_rfl) ?_ _
        go_upto_region 13 with (fail)
        refine wp_region_lit ?_
        refine wpL_pure (.int .i64 ((k + 1 : Nat) : Int)) rfl (run_addi Try.underlying3 rfl rfl rfl _ (by have := HK.out; rw [wrap_in _ (by omega) (by omega)]; omega)) ?_
        simp only [Act.put, List.setIfInBounds_toArray, List.set_cons_zero, List.set_cons_succ]
        refine wpL_pure (.int .i64 ((k + 1 : Nat) : Int)) rfl (by kernel_rfl) ?_
        simp only [Act.put, List.setIfInBounds_toArray, List.set_cons_zero, List.set_cons_succ]
        have HN : Hid (hk rm S fr (k + 1) = (s, c, nt)) := Lib.hid (by rw [hk, getD_some HO.out, HH.out, stepH, if_neg (by rw [HW.out]; simp)])
        have NX : Hid (k + 1 ≤ 2 ∧ Below w.heap.size w W8.drew ∧ LS W8.drew lb b fr rm (hk rm S fr (k + 1)).1 (hk rm S fr (k + 1)).2.1 (hk rm S fr (k + 1)).2.2 (.slice none 0 0) false ∧ DS W8.drew b gs gm n L dc S fu fz false) := Lib.hid (by rw [HN.out]; exact ⟨HK.out, ⟨F8.out.1.1.drew, F8.out.1.2.1, F8.out.1.2.2⟩⟩)
        clear HN
        unfold wpList
        go_roundw
        case rel => first | exact ⟨_, rfl, NX⟩ | ((repeat apply Exists.intro); exact ⟨⟨_, rfl, NX⟩, rfl⟩)
        case measure => simp [intOf]; have := HK.out; omega
      · go_upto_region 10 with (fail)
        refine wp_region_lit ?_
        refine wpL_pure (.slice (some ⟨g9, 0, none⟩) 64 c9) rfl (by kernel_rfl) ?_
        simp only [Act.put, List.setIfInBounds_toArray, List.set_cons_zero, List.set_cons_succ]
        refine wpL_call 31 #[.slice (some ⟨g9, 0, none⟩) 64 c9] rfl (by kernel_rfl) ((parse_any _ g9 0 c9 xs F5.out.2 C9.out).mono fun e W6 ⟨he, bb⟩ => ⟨.tuple #[.agg (hdV (srl xs) (cntL xs) (nteL xs)).toArray, .bool true], he.trans (by rw [HW.out]; rfl), ?_⟩)
        simp only [Act.put, List.setIfInBounds_toArray, List.set_cons_zero, List.set_cons_succ]
        have F6 : Hid (Below w.heap.size w W6 ∧ LS W6 lb b fr rm s c nt (.slice none 0 0) false ∧ DS W6 b gs gm n L dc S fu fz false) := Lib.hid ⟨F5.out.1.1.trans (bb.mono F5.out.1.1.size), F5.out.1.2.1.below bb, F5.out.1.2.2.below bb⟩
        clear bb F5
        refine wpL_pure (.tuple #[.agg (hdV (srl xs) (cntL xs) (nteL xs)).toArray, .bool true]) rfl (by kernel_rfl) ?_
        simp only [Act.put, List.setIfInBounds_toArray, List.set_cons_zero, List.set_cons_succ]
        refine wpL_pure (.agg (hdV (srl xs) (cntL xs) (nteL xs)).toArray) rfl (by kernel_rfl) ?_
        simp only [Act.put, List.setIfInBounds_toArray, List.set_cons_zero, List.set_cons_succ]
        refine wpL_pure (.bool true) rfl (by kernel_rfl) ?_
        simp only [Act.put, List.setIfInBounds_toArray, List.set_cons_zero, List.set_cons_succ]
        obtain ⟨W7, hW7⟩ : ∃ V, V = W6.alloc (.cells (hdV 0 0 (List.replicate 16 0)).toArray 64) := ⟨_, rfl⟩
        refine wpL_value (.pointer (some ⟨W6.heap.size, 0, none⟩)) W7 rfl (by rw [hW7]; kernel_rfl) ?_
        simp only [Act.put, List.setIfInBounds_toArray, List.set_cons_zero, List.set_cons_succ]
        obtain ⟨g7, hg7⟩ : ∃ q, W6.heap.size = q := ⟨_, rfl⟩
        have F7 : Hid ((Below w.heap.size w W7 ∧ LS W7 lb b fr rm s c nt (.slice none 0 0) false ∧ DS W7 b gs gm n L dc S fu fz false) ∧ Blk W7 g7 64 (hdV 0 0 (List.replicate 16 0)).toArray ∧ w.heap.size ≤ g7 ∧ lb ≠ g7 ∧ b ≠ g7 ∧ gs ≠ g7 ∧ gm ≠ g7) := Lib.hid (by have bb : Below W6.heap.size W6 W7 := (by rw [hW7]; exact (Below.refl _ _).alloc (Nat.le_refl _) _); have l3 := F6.out.2.2.lts; have l1 := F6.out.2.1.1.lt; have l0 := F6.out.1.size; exact ⟨⟨F6.out.1.trans (bb.mono F6.out.1.size), F6.out.2.1.below bb, F6.out.2.2.below bb⟩, by rw [hW7, ← hg7]; exact Blk.new _ _ _, by omega, by omega, by omega, by omega, by omega⟩)
        rw [hg7]
        clear hW7 hg7 F6
        refine wpList_store_row rfl 64 _ _ rfl g7 (hdV (srl xs) (cntL xs) (nteL xs)).toArray rfl rfl 64 _ (F7.out.2.1) (by simp only [List.size_toArray, hdV, List.length_cons, List.length_map, List.length_replicate, NX16.out] <;> kernel_rfl) (by simp only [List.size_toArray, hdV, List.length_cons, List.length_map, List.length_replicate, NX16.out] <;> rfl) (hd_one _ _ _) ?_
        simp only [Act.put, List.setIfInBounds_toArray, List.set_cons_zero, List.set_cons_succ]
        obtain ⟨W8, hW8⟩ : ∃ V, V = W7.setRow g7 (hdV (srl xs) (cntL xs) (nteL xs)).toArray := ⟨_, rfl⟩
        rw [← hW8]
        have F8 : Hid ((Below w.heap.size w W8 ∧ LS W8 lb b fr rm s c nt (.slice none 0 0) false ∧ DS W8 b gs gm n L dc S fu fz false) ∧ Blk W8 g7 64 (hdV (srl xs) (cntL xs) (nteL xs)).toArray) := Lib.hid (by have sr := row_gb W7 g7 (hdV (srl xs) (cntL xs) (nteL xs)).toArray; have bw : Below w.heap.size w W8 := (by rw [hW8]; exact below_setRow F7.out.1.1 F7.out.2.2.1 _); rw [← hW8] at sr; exact ⟨⟨bw, F7.out.1.2.1.grown sr F7.out.2.2.2.1.symm, ds_far F7.out.1.2.2 sr F7.out.2.2.2.2⟩, by rw [hW8]; exact setRow_heap _ _ _ _ _ _ F7.out.2.1⟩)
        clear hW8 F7
        refine wpL_pure (.bool true) rfl (by kernel_rfl) ?_
        simp only [Act.put, List.setIfInBounds_toArray, List.set_cons_zero, List.set_cons_succ]
        obtain ⟨fb, hfb⟩ : ∃ q, fitB rm (srl xs) (cntL xs) k = q := ⟨_, rfl⟩
        have HF := Lib.hid hfb
        clear hfb
        cases fb
        · go_upto_region 11 with (fail)
          refine region_anyT (fun X => (Below w.heap.size w X ∧ LS X lb b fr rm s c nt (.slice none 0 0) false ∧ DS X b gs gm n L dc S fu fz false) ∧ Blk X g7 64 (hdV (srl xs) (cntL xs) (nteL xs)).toArray) (by kernel_rfl) 17 17 rfl ?_
          refine wpAnyT_take (i := 0) (oi := ⟨some 62, _, _, _, _, _⟩) (v := .bool true) rfl (by kernel_rfl) (by kernel_rfl) (by kernel_rfl) (fun _ _ _ h => h) (by kernel_rfl) (Or.inl ⟨rfl, fun w h => by kernel_rfl⟩) (⟨⟨F8.out.1.1.drew, F8.out.1.2.1, F8.out.1.2.2⟩, F8.out.2⟩) ?_
          simp only [Act.put, List.setIfInBounds_toArray, List.set_cons_zero, List.set_cons_succ]
          refine wpAnyT_take (i := 1) (oi := ⟨some 63, _, _, _, _, _⟩) (v := .bool true) rfl (by kernel_rfl) (by kernel_rfl) (by kernel_rfl) (fun _ _ _ h => h) (by kernel_rfl) (Or.inl ⟨rfl, fun w h => by kernel_rfl⟩) (⟨⟨F8.out.1.1.drew, F8.out.1.2.1, F8.out.1.2.2⟩, F8.out.2⟩) ?_
          simp only [Act.put, List.setIfInBounds_toArray, List.set_cons_zero, List.set_cons_succ]
          refine wpAnyT_take (i := 2) (oi := ⟨some 64, _, _, _, _, _⟩) (v := .pointer (some ⟨lb, 0, none⟩)) rfl (by kernel_rfl) (by kernel_rfl) (by kernel_rfl) (fun _ _ _ h => h) (by kernel_rfl) (Or.inl ⟨rfl, fun w h => by kernel_rfl⟩) (⟨⟨F8.out.1.1.drew, F8.out.1.2.1, F8.out.1.2.2⟩, F8.out.2⟩) ?_
          simp only [Act.put, List.setIfInBounds_toArray, List.set_cons_zero, List.set_cons_succ]
          refine wpAnyT_take (i := 3) (oi := ⟨some 65, _, _, _, _, _⟩) (v := .agg (hdV (srl xs) (cntL xs) (nteL xs)).toArray) rfl (by kernel_rfl) (by kernel_rfl) (by kernel_rfl) (fun _ _ _ h => h) (by kernel_rfl) (Or.inl ⟨rfl, fun w h => run_load_mid _ _ _ 64 _ rfl g7 0 rfl _ _ (blk_range' h.2) Try.underlying64 rfl (by simp only [List.size_toArray, hd_len NXX.out]; kernel_rfl)⟩) (⟨⟨F8.out.1.1.drew, F8.out.1.2.1, F8.out.1.2.2⟩, F8.out.2⟩) ?_
          simp only [Act.put, List.setIfInBounds_toArray, List.set_cons_zero, List.set_cons_succ]
          refine wpAnyT_take (i := 4) (oi := ⟨some 66, _, _, _, _, _⟩) (v := .int .i64 (k : Int)) rfl (by kernel_rfl) (by kernel_rfl) (by kernel_rfl) (fun _ _ _ h => h) (by kernel_rfl) (Or.inl ⟨rfl, fun w h => by kernel_rfl⟩) (⟨⟨F8.out.1.1.drew, F8.out.1.2.1, F8.out.1.2.2⟩, F8.out.2⟩) ?_
          simp only [Act.put, List.setIfInBounds_toArray, List.set_cons_zero, List.set_cons_succ]
          refine wpAnyT_one (i := 5) (by kernel_rfl) ?_
          refine op_call (o := ⟨some 67, _, _, _, _, _⟩) 32 #[.pointer (some ⟨lb, 0, none⟩), .agg (hdV (srl xs) (cntL xs) (nteL xs)).toArray, .int .i64 (k : Int)] rfl rfl (by kernel_rfl) ((fits_any (show LS W8.drew lb b fr rm s c nt (.slice none 0 0) false from F8.out.1.2.1) (srl xs) (cntL xs) k (nteL xs) NXX.out UU.out.1 UU.out.2).mono fun e W9 h => ⟨.bool false, h.1.trans (by rw [HF.out]), ?_, ?_⟩)
          · exact fun _ => by have bb : Below W8.heap.size W8 W9 := (Below.refl _ W8).drew.trans h.2; exact ⟨⟨F8.out.1.1.trans (bb.mono F8.out.1.1.size), F8.out.1.2.1.below bb, F8.out.1.2.2.below bb⟩, F8.out.2.below bb⟩
          simp only [Act.put, List.setIfInBounds_toArray, List.set_cons_zero, List.set_cons_succ]
          have F9 : Hid ((Below w.heap.size w W9 ∧ LS W9 lb b fr rm s c nt (.slice none 0 0) false ∧ DS W9 b gs gm n L dc S fu fz false) ∧ Blk W9 g7 64 (hdV (srl xs) (cntL xs) (nteL xs)).toArray) := Lib.hid (by have bb : Below W8.heap.size W8 W9 := (Below.refl _ W8).drew.trans h.2; exact ⟨⟨F8.out.1.1.trans (bb.mono F8.out.1.1.size), F8.out.1.2.1.below bb, F8.out.1.2.2.below bb⟩, F8.out.2.below bb⟩)
          clear h F8
          refine wpAnyT_take (i := 6) (oi := ⟨some 68, _, _, _, _, _⟩) (v := .bool false) rfl (by kernel_rfl) (by kernel_rfl) (by kernel_rfl) (fun _ _ _ h => h) (by kernel_rfl) (Or.inl ⟨rfl, fun w h => by kernel_rfl⟩) (F9.out) ?_
          simp only [Act.put, List.setIfInBounds_toArray, List.set_cons_zero, List.set_cons_succ]
          refine wpAnyT_take (i := 7) (oi := ⟨some 69, _, _, _, _, _⟩) (v := .bool false) rfl (by kernel_rfl) (by kernel_rfl) (by kernel_rfl) (fun _ _ _ h => h) (by kernel_rfl) (Or.inl ⟨rfl, fun w h => by kernel_rfl⟩) (F9.out) ?_
          simp only [Act.put, List.setIfInBounds_toArray, List.set_cons_zero, List.set_cons_succ]
          refine wpAnyT_take (i := 8) (oi := ⟨some 70, _, _, _, _, _⟩) (v := undef) rfl (by kernel_rfl) (by kernel_rfl) (by kernel_rfl) (fun _ _ _ h => h) (by kernel_rfl) (Or.inr ⟨rfl, rfl⟩) (F9.out) ?_
          simp only [Act.put, List.setIfInBounds_toArray, List.set_cons_zero, List.set_cons_succ]
          refine wpAnyT_take (i := 9) (oi := ⟨some 71, _, _, _, _, _⟩) (v := undef) rfl (by kernel_rfl) (by kernel_rfl) (by kernel_rfl) (fun _ _ _ h => h) (by kernel_rfl) (Or.inr ⟨rfl, rfl⟩) (F9.out) ?_
          simp only [Act.put, List.setIfInBounds_toArray, List.set_cons_zero, List.set_cons_succ]
          refine wpAnyT_take (i := 10) (oi := ⟨some 72, _, _, _, _, _⟩) (v := undef) rfl (by kernel_rfl) (by kernel_rfl) (by kernel_rfl) (fun _ _ _ h => h) (by kernel_rfl) (Or.inr ⟨rfl, rfl⟩) (F9.out) ?_
          simp only [Act.put, List.setIfInBounds_toArray, List.set_cons_zero, List.set_cons_succ]
          refine wpAnyT_take (i := 11) (oi := ⟨some 73, _, _, _, _, _⟩) (v := undef) rfl (by kernel_rfl) (by kernel_rfl) (by kernel_rfl) (fun _ _ _ h => h) (by kernel_rfl) (Or.inr ⟨rfl, rfl⟩) (F9.out) ?_
          simp only [Act.put, List.setIfInBounds_toArray, List.set_cons_zero, List.set_cons_succ]
          refine wpAnyT_take (i := 12) (oi := ⟨some 74, _, _, _, _, _⟩) (v := undef) rfl (by kernel_rfl) (by kernel_rfl) (by kernel_rfl) (fun _ _ _ h => h) (by kernel_rfl) (Or.inr ⟨rfl, rfl⟩) (F9.out) ?_
          simp only [Act.put, List.setIfInBounds_toArray, List.set_cons_zero, List.set_cons_succ]
          refine wpAnyT_take (i := 13) (oi := ⟨some 75, _, _, _, _, _⟩) (v := undef) rfl (by kernel_rfl) (by kernel_rfl) (by kernel_rfl) (fun _ _ _ h => h) (by kernel_rfl) (Or.inr ⟨rfl, rfl⟩) (F9.out) ?_
          simp only [Act.put, List.setIfInBounds_toArray, List.set_cons_zero, List.set_cons_succ]
          refine wpAnyT_take (i := 14) (oi := ⟨some 76, _, _, _, _, _⟩) (v := undef) rfl (by kernel_rfl) (by kernel_rfl) (by kernel_rfl) (fun _ _ _ h => h) (by kernel_rfl) (Or.inr ⟨rfl, rfl⟩) (F9.out) ?_
          simp only [Act.put, List.setIfInBounds_toArray, List.set_cons_zero, List.set_cons_succ]
          refine wpAnyT_take (i := 15) (oi := ⟨some 77, _, _, _, _, _⟩) (v := undef) rfl (by kernel_rfl) (by kernel_rfl) (by kernel_rfl) (fun _ _ _ h => h) (by kernel_rfl) (Or.inr ⟨rfl, rfl⟩) (F9.out) ?_
          simp only [Act.put, List.setIfInBounds_toArray, List.set_cons_zero, List.set_cons_succ]
          refine wpAnyT_take (i := 16) (oi := ⟨some 78, _, _, _, _, _⟩) (v := .bool false) rfl (by kernel_rfl) (by kernel_rfl) (by kernel_rfl) (fun _ _ _ h => h) (by kernel_rfl) (Or.inl ⟨rfl, fun w h => by kernel_rfl⟩) (F9.out) ?_
          simp only [Act.put, List.setIfInBounds_toArray, List.set_cons_zero, List.set_cons_succ]
          refine wpAnyT_done (by kernel_rfl) ?_ _
          go_upto_region 13 with (fail)
          refine wp_region_lit ?_
          refine wpL_pure (.int .i64 ((k + 1 : Nat) : Int)) rfl (run_addi Try.underlying3 rfl rfl rfl _ (by have := HK.out; rw [wrap_in _ (by omega) (by omega)]; omega)) ?_
          simp only [Act.put, List.setIfInBounds_toArray, List.set_cons_zero, List.set_cons_succ]
          refine wpL_pure (.int .i64 ((k + 1 : Nat) : Int)) rfl (by kernel_rfl) ?_
          simp only [Act.put, List.setIfInBounds_toArray, List.set_cons_zero, List.set_cons_succ]
          have HN : Hid (hk rm S fr (k + 1) = (s, c, nt)) := Lib.hid (by rw [hk, getD_some HO.out, HH.out, stepH, if_neg (by rw [HF.out]; simp)])
          have NX : Hid (k + 1 ≤ 2 ∧ Below w.heap.size w W9 ∧ LS W9 lb b fr rm (hk rm S fr (k + 1)).1 (hk rm S fr (k + 1)).2.1 (hk rm S fr (k + 1)).2.2 (.slice none 0 0) false ∧ DS W9 b gs gm n L dc S fu fz false) := Lib.hid (by rw [HN.out]; exact ⟨HK.out, F9.out.1⟩)
          clear HN
          unfold wpList
          go_roundw
          case rel => first | exact ⟨_, rfl, NX⟩ | ((repeat apply Exists.intro); exact ⟨⟨_, rfl, NX⟩, rfl⟩)
          case measure => simp [intOf]; have := HK.out; omega
        · by_cases hg : s ≤ srl xs
          · have HG := Lib.hid hg
            clear hg
            go_upto_region 11 with (fail)
            refine region_anyT (fun X => (Below w.heap.size w X ∧ LS X lb b fr rm s c nt (.slice none 0 0) false ∧ DS X b gs gm n L dc S fu fz false) ∧ Blk X g7 64 (hdV (srl xs) (cntL xs) (nteL xs)).toArray) (by kernel_rfl) 17 17 rfl ?_
            refine wpAnyT_take (i := 0) (oi := ⟨some 62, _, _, _, _, _⟩) (v := .bool true) rfl (by kernel_rfl) (by kernel_rfl) (by kernel_rfl) (fun _ _ _ h => h) (by kernel_rfl) (Or.inl ⟨rfl, fun w h => by kernel_rfl⟩) (⟨⟨F8.out.1.1.drew, F8.out.1.2.1, F8.out.1.2.2⟩, F8.out.2⟩) ?_
            simp only [Act.put, List.setIfInBounds_toArray, List.set_cons_zero, List.set_cons_succ]
            refine wpAnyT_take (i := 1) (oi := ⟨some 63, _, _, _, _, _⟩) (v := .bool true) rfl (by kernel_rfl) (by kernel_rfl) (by kernel_rfl) (fun _ _ _ h => h) (by kernel_rfl) (Or.inl ⟨rfl, fun w h => by kernel_rfl⟩) (⟨⟨F8.out.1.1.drew, F8.out.1.2.1, F8.out.1.2.2⟩, F8.out.2⟩) ?_
            simp only [Act.put, List.setIfInBounds_toArray, List.set_cons_zero, List.set_cons_succ]
            refine wpAnyT_take (i := 2) (oi := ⟨some 64, _, _, _, _, _⟩) (v := .pointer (some ⟨lb, 0, none⟩)) rfl (by kernel_rfl) (by kernel_rfl) (by kernel_rfl) (fun _ _ _ h => h) (by kernel_rfl) (Or.inl ⟨rfl, fun w h => by kernel_rfl⟩) (⟨⟨F8.out.1.1.drew, F8.out.1.2.1, F8.out.1.2.2⟩, F8.out.2⟩) ?_
            simp only [Act.put, List.setIfInBounds_toArray, List.set_cons_zero, List.set_cons_succ]
            refine wpAnyT_take (i := 3) (oi := ⟨some 65, _, _, _, _, _⟩) (v := .agg (hdV (srl xs) (cntL xs) (nteL xs)).toArray) rfl (by kernel_rfl) (by kernel_rfl) (by kernel_rfl) (fun _ _ _ h => h) (by kernel_rfl) (Or.inl ⟨rfl, fun w h => run_load_mid _ _ _ 64 _ rfl g7 0 rfl _ _ (blk_range' h.2) Try.underlying64 rfl (by simp only [List.size_toArray, hd_len NXX.out]; kernel_rfl)⟩) (⟨⟨F8.out.1.1.drew, F8.out.1.2.1, F8.out.1.2.2⟩, F8.out.2⟩) ?_
            simp only [Act.put, List.setIfInBounds_toArray, List.set_cons_zero, List.set_cons_succ]
            refine wpAnyT_take (i := 4) (oi := ⟨some 66, _, _, _, _, _⟩) (v := .int .i64 (k : Int)) rfl (by kernel_rfl) (by kernel_rfl) (by kernel_rfl) (fun _ _ _ h => h) (by kernel_rfl) (Or.inl ⟨rfl, fun w h => by kernel_rfl⟩) (⟨⟨F8.out.1.1.drew, F8.out.1.2.1, F8.out.1.2.2⟩, F8.out.2⟩) ?_
            simp only [Act.put, List.setIfInBounds_toArray, List.set_cons_zero, List.set_cons_succ]
            refine wpAnyT_one (i := 5) (by kernel_rfl) ?_
            refine op_call (o := ⟨some 67, _, _, _, _, _⟩) 32 #[.pointer (some ⟨lb, 0, none⟩), .agg (hdV (srl xs) (cntL xs) (nteL xs)).toArray, .int .i64 (k : Int)] rfl rfl (by kernel_rfl) ((fits_any (show LS W8.drew lb b fr rm s c nt (.slice none 0 0) false from F8.out.1.2.1) (srl xs) (cntL xs) k (nteL xs) NXX.out UU.out.1 UU.out.2).mono fun e W9 h => ⟨.bool true, h.1.trans (by rw [HF.out]), ?_, ?_⟩)
            · exact fun _ => by have bb : Below W8.heap.size W8 W9 := (Below.refl _ W8).drew.trans h.2; exact ⟨⟨F8.out.1.1.trans (bb.mono F8.out.1.1.size), F8.out.1.2.1.below bb, F8.out.1.2.2.below bb⟩, F8.out.2.below bb⟩
            simp only [Act.put, List.setIfInBounds_toArray, List.set_cons_zero, List.set_cons_succ]
            have F9 : Hid ((Below w.heap.size w W9 ∧ LS W9 lb b fr rm s c nt (.slice none 0 0) false ∧ DS W9 b gs gm n L dc S fu fz false) ∧ Blk W9 g7 64 (hdV (srl xs) (cntL xs) (nteL xs)).toArray) := Lib.hid (by have bb : Below W8.heap.size W8 W9 := (Below.refl _ W8).drew.trans h.2; exact ⟨⟨F8.out.1.1.trans (bb.mono F8.out.1.1.size), F8.out.1.2.1.below bb, F8.out.1.2.2.below bb⟩, F8.out.2.below bb⟩)
            clear h F8
            refine wpAnyT_take (i := 6) (oi := ⟨some 68, _, _, _, _, _⟩) (v := .bool true) rfl (by kernel_rfl) (by kernel_rfl) (by kernel_rfl) (fun _ _ _ h => h) (by kernel_rfl) (Or.inl ⟨rfl, fun w h => by kernel_rfl⟩) (F9.out) ?_
            simp only [Act.put, List.setIfInBounds_toArray, List.set_cons_zero, List.set_cons_succ]
            refine wpAnyT_take (i := 7) (oi := ⟨some 69, _, _, _, _, _⟩) (v := .bool true) rfl (by kernel_rfl) (by kernel_rfl) (by kernel_rfl) (fun _ _ _ h => h) (by kernel_rfl) (Or.inl ⟨rfl, fun w h => by kernel_rfl⟩) (F9.out) ?_
            simp only [Act.put, List.setIfInBounds_toArray, List.set_cons_zero, List.set_cons_succ]
            refine wpAnyT_take (i := 8) (oi := ⟨some 70, _, _, _, _, _⟩) (v := .pointer (some ⟨g7, 0, none⟩)) rfl (by kernel_rfl) (by kernel_rfl) (by kernel_rfl) (fun _ _ _ h => h) (by kernel_rfl) (Or.inl ⟨rfl, fun w h => by kernel_rfl⟩) (F9.out) ?_
            simp only [Act.put, List.setIfInBounds_toArray, List.set_cons_zero, List.set_cons_succ]
            refine wpAnyT_take (i := 9) (oi := ⟨some 71, _, _, _, _, _⟩) (v := .int .u64 ((srl xs : Nat) : Int)) rfl (by kernel_rfl) (by kernel_rfl) (by kernel_rfl) (fun _ _ _ h => h) (by kernel_rfl) (Or.inl ⟨rfl, fun w h => run_load_one _ _ _ 35 _ _ rfl (g7) (0) rfl (by rw [h.2.cell]; rfl) (by kernel_rfl)⟩) (F9.out) ?_
            simp only [Act.put, List.setIfInBounds_toArray, List.set_cons_zero, List.set_cons_succ]
            refine wpAnyT_take (i := 10) (oi := ⟨some 72, _, _, _, _, _⟩) (v := .pointer (some ⟨lb, 0, none⟩)) rfl (by kernel_rfl) (by kernel_rfl) (by kernel_rfl) (fun _ _ _ h => h) (by kernel_rfl) (Or.inl ⟨rfl, fun w h => by kernel_rfl⟩) (F9.out) ?_
            simp only [Act.put, List.setIfInBounds_toArray, List.set_cons_zero, List.set_cons_succ]
            refine wpAnyT_take (i := 11) (oi := ⟨some 73, _, _, _, _, _⟩) (v := .pointer (some ⟨lb, 0, none⟩)) rfl (by kernel_rfl) (by kernel_rfl) (by kernel_rfl) (fun _ _ _ h => h) (by kernel_rfl) (Or.inl ⟨rfl, fun w h => by kernel_rfl⟩) (F9.out) ?_
            simp only [Act.put, List.setIfInBounds_toArray, List.set_cons_zero, List.set_cons_succ]
            refine wpAnyT_take (i := 12) (oi := ⟨some 74, _, _, _, _, _⟩) (v := .pointer (some ⟨lb, 3, none⟩)) rfl (by kernel_rfl) (by kernel_rfl) (by kernel_rfl) (fun _ _ _ h => h) (by kernel_rfl) (Or.inl ⟨rfl, fun w h => by kernel_rfl⟩) (F9.out) ?_
            simp only [Act.put, List.setIfInBounds_toArray, List.set_cons_zero, List.set_cons_succ]
            refine wpAnyT_take (i := 13) (oi := ⟨some 75, _, _, _, _, _⟩) (v := .pointer (some ⟨lb, 3, none⟩)) rfl (by kernel_rfl) (by kernel_rfl) (by kernel_rfl) (fun _ _ _ h => h) (by kernel_rfl) (Or.inl ⟨rfl, fun w h => by kernel_rfl⟩) (F9.out) ?_
            simp only [Act.put, List.setIfInBounds_toArray, List.set_cons_zero, List.set_cons_succ]
            refine wpAnyT_take (i := 14) (oi := ⟨some 76, _, _, _, _, _⟩) (v := .int .u64 ((s : Nat) : Int)) rfl (by kernel_rfl) (by kernel_rfl) (by kernel_rfl) (fun _ _ _ h => h) (by kernel_rfl) (Or.inl ⟨rfl, fun w h => run_load_one _ _ _ 35 _ _ rfl (lb) (3) rfl h.1.2.1.c3 (by kernel_rfl)⟩) (F9.out) ?_
            simp only [Act.put, List.setIfInBounds_toArray, List.set_cons_zero, List.set_cons_succ]
            refine wpAnyT_take (i := 15) (oi := ⟨some 77, _, _, _, _, _⟩) (v := .bool true) rfl (by kernel_rfl) (by kernel_rfl) (by kernel_rfl) (fun _ _ _ h => h) (by kernel_rfl) (Or.inl ⟨rfl, fun w h => run_gei Try.underlying35 rfl rfl rfl (by have := HG.out; rw [decide_eq_true_eq]; omega)⟩) (F9.out) ?_
            simp only [Act.put, List.setIfInBounds_toArray, List.set_cons_zero, List.set_cons_succ]
            refine wpAnyT_take (i := 16) (oi := ⟨some 78, _, _, _, _, _⟩) (v := .bool true) rfl (by kernel_rfl) (by kernel_rfl) (by kernel_rfl) (fun _ _ _ h => h) (by kernel_rfl) (Or.inl ⟨rfl, fun w h => by kernel_rfl⟩) (F9.out) ?_
            simp only [Act.put, List.setIfInBounds_toArray, List.set_cons_zero, List.set_cons_succ]
            refine wpAnyT_done (by kernel_rfl) ?_ _
            go_upto_region 12 with (fail)
            refine wp_region_lit ?_
            refine wpL_pure (.pointer (some ⟨lb, 0, none⟩)) rfl (by kernel_rfl) ?_
            simp only [Act.put, List.setIfInBounds_toArray, List.set_cons_zero, List.set_cons_succ]
            refine wpL_pure (.agg (hdV (srl xs) (cntL xs) (nteL xs)).toArray) rfl (run_load_mid _ _ _ 64 _ rfl g7 0 rfl _ _ (blk_range' F9.out.2) Try.underlying64 rfl (by simp only [List.size_toArray, hd_len NXX.out]; kernel_rfl)) ?_
            simp only [Act.put, List.setIfInBounds_toArray, List.set_cons_zero, List.set_cons_succ]
            refine wpL_pure (.pointer (some ⟨lb, 0, none⟩)) rfl (by kernel_rfl) ?_
            simp only [Act.put, List.setIfInBounds_toArray, List.set_cons_zero, List.set_cons_succ]
            refine wpL_pure (.pointer (some ⟨lb, 3, none⟩)) rfl (by kernel_rfl) ?_
            simp only [Act.put, List.setIfInBounds_toArray, List.set_cons_zero, List.set_cons_succ]
            obtain ⟨V3, h3, t3, b3, q3⟩ := store_head W9 lb b fr rm s c nt _ false (srl xs) (cntL xs) (nteL xs) F9.out.1.2.1 NXX.out UU.out.1 UU.out.2
            refine wpList_store_mid rfl 64 _ _ rfl lb 3 (hdV (srl xs) (cntL xs) (nteL xs)).toArray rfl rfl (by rw [show (hdV (srl xs) (cntL xs) (nteL xs)).toArray.size = 18 by rw [List.size_toArray, hd_len NXX.out]]; exact t3) (by simp only [List.size_toArray, hd_len NXX.out] <;> kernel_rfl) (hd_one _ _ _) ?_
            simp only [Act.put, List.setIfInBounds_toArray, List.set_cons_zero, List.set_cons_succ]
            rw [show W9.setCells lb 3 (hdV (srl xs) (cntL xs) (nteL xs)).toArray.toList = V3 from h3.symm]
            have F10 : Hid (Below w.heap.size w V3 ∧ LS V3 lb b fr rm (srl xs) (cntL xs) (nteL xs) (.slice none 0 0) false ∧ DS V3 b gs gm n L dc S fu fz false) := Lib.hid ⟨F9.out.1.1.grown q3 F9.out.1.1.size (fun j hj => by cases hj; exact Nat.le_of_eq LB.out), b3, ds_far F9.out.1.2.2 q3 (by have l3 := D.out.lts; have e := LB.out; omega)⟩
            clear b3 q3 h3 t3 F9
            go_upto_region 13 with (fail)
            refine wp_region_lit ?_
            refine wpL_pure (.int .i64 ((k + 1 : Nat) : Int)) rfl (run_addi Try.underlying3 rfl rfl rfl _ (by have := HK.out; rw [wrap_in _ (by omega) (by omega)]; omega)) ?_
            simp only [Act.put, List.setIfInBounds_toArray, List.set_cons_zero, List.set_cons_succ]
            refine wpL_pure (.int .i64 ((k + 1 : Nat) : Int)) rfl (by kernel_rfl) ?_
            simp only [Act.put, List.setIfInBounds_toArray, List.set_cons_zero, List.set_cons_succ]
            have HN : Hid (hk rm S fr (k + 1) = (srl xs, cntL xs, nteL xs)) := Lib.hid (by rw [hk, getD_some HO.out, HH.out, stepH, if_pos (by rw [HW.out, HF.out, decide_eq_true HG.out]; rfl)])
            have NX : Hid (k + 1 ≤ 2 ∧ Below w.heap.size w V3 ∧ LS V3 lb b fr rm (hk rm S fr (k + 1)).1 (hk rm S fr (k + 1)).2.1 (hk rm S fr (k + 1)).2.2 (.slice none 0 0) false ∧ DS V3 b gs gm n L dc S fu fz false) := Lib.hid (by rw [HN.out]; exact ⟨HK.out, F10.out⟩)
            clear HN
            unfold wpList
            go_roundw
            case rel => first | exact ⟨_, rfl, NX⟩ | ((repeat apply Exists.intro); exact ⟨⟨_, rfl, NX⟩, rfl⟩)
            case measure => simp [intOf]; have := HK.out; omega
          · have HG := Lib.hid hg
            clear hg
            go_upto_region 11 with (fail)
            refine region_anyT (fun X => (Below w.heap.size w X ∧ LS X lb b fr rm s c nt (.slice none 0 0) false ∧ DS X b gs gm n L dc S fu fz false) ∧ Blk X g7 64 (hdV (srl xs) (cntL xs) (nteL xs)).toArray) (by kernel_rfl) 17 17 rfl ?_
            refine wpAnyT_take (i := 0) (oi := ⟨some 62, _, _, _, _, _⟩) (v := .bool true) rfl (by kernel_rfl) (by kernel_rfl) (by kernel_rfl) (fun _ _ _ h => h) (by kernel_rfl) (Or.inl ⟨rfl, fun w h => by kernel_rfl⟩) (⟨⟨F8.out.1.1.drew, F8.out.1.2.1, F8.out.1.2.2⟩, F8.out.2⟩) ?_
            simp only [Act.put, List.setIfInBounds_toArray, List.set_cons_zero, List.set_cons_succ]
            refine wpAnyT_take (i := 1) (oi := ⟨some 63, _, _, _, _, _⟩) (v := .bool true) rfl (by kernel_rfl) (by kernel_rfl) (by kernel_rfl) (fun _ _ _ h => h) (by kernel_rfl) (Or.inl ⟨rfl, fun w h => by kernel_rfl⟩) (⟨⟨F8.out.1.1.drew, F8.out.1.2.1, F8.out.1.2.2⟩, F8.out.2⟩) ?_
            simp only [Act.put, List.setIfInBounds_toArray, List.set_cons_zero, List.set_cons_succ]
            refine wpAnyT_take (i := 2) (oi := ⟨some 64, _, _, _, _, _⟩) (v := .pointer (some ⟨lb, 0, none⟩)) rfl (by kernel_rfl) (by kernel_rfl) (by kernel_rfl) (fun _ _ _ h => h) (by kernel_rfl) (Or.inl ⟨rfl, fun w h => by kernel_rfl⟩) (⟨⟨F8.out.1.1.drew, F8.out.1.2.1, F8.out.1.2.2⟩, F8.out.2⟩) ?_
            simp only [Act.put, List.setIfInBounds_toArray, List.set_cons_zero, List.set_cons_succ]
            refine wpAnyT_take (i := 3) (oi := ⟨some 65, _, _, _, _, _⟩) (v := .agg (hdV (srl xs) (cntL xs) (nteL xs)).toArray) rfl (by kernel_rfl) (by kernel_rfl) (by kernel_rfl) (fun _ _ _ h => h) (by kernel_rfl) (Or.inl ⟨rfl, fun w h => run_load_mid _ _ _ 64 _ rfl g7 0 rfl _ _ (blk_range' h.2) Try.underlying64 rfl (by simp only [List.size_toArray, hd_len NXX.out]; kernel_rfl)⟩) (⟨⟨F8.out.1.1.drew, F8.out.1.2.1, F8.out.1.2.2⟩, F8.out.2⟩) ?_
            simp only [Act.put, List.setIfInBounds_toArray, List.set_cons_zero, List.set_cons_succ]
            refine wpAnyT_take (i := 4) (oi := ⟨some 66, _, _, _, _, _⟩) (v := .int .i64 (k : Int)) rfl (by kernel_rfl) (by kernel_rfl) (by kernel_rfl) (fun _ _ _ h => h) (by kernel_rfl) (Or.inl ⟨rfl, fun w h => by kernel_rfl⟩) (⟨⟨F8.out.1.1.drew, F8.out.1.2.1, F8.out.1.2.2⟩, F8.out.2⟩) ?_
            simp only [Act.put, List.setIfInBounds_toArray, List.set_cons_zero, List.set_cons_succ]
            refine wpAnyT_one (i := 5) (by kernel_rfl) ?_
            refine op_call (o := ⟨some 67, _, _, _, _, _⟩) 32 #[.pointer (some ⟨lb, 0, none⟩), .agg (hdV (srl xs) (cntL xs) (nteL xs)).toArray, .int .i64 (k : Int)] rfl rfl (by kernel_rfl) ((fits_any (show LS W8.drew lb b fr rm s c nt (.slice none 0 0) false from F8.out.1.2.1) (srl xs) (cntL xs) k (nteL xs) NXX.out UU.out.1 UU.out.2).mono fun e W9 h => ⟨.bool true, h.1.trans (by rw [HF.out]), ?_, ?_⟩)
            · exact fun _ => by have bb : Below W8.heap.size W8 W9 := (Below.refl _ W8).drew.trans h.2; exact ⟨⟨F8.out.1.1.trans (bb.mono F8.out.1.1.size), F8.out.1.2.1.below bb, F8.out.1.2.2.below bb⟩, F8.out.2.below bb⟩
            simp only [Act.put, List.setIfInBounds_toArray, List.set_cons_zero, List.set_cons_succ]
            have F9 : Hid ((Below w.heap.size w W9 ∧ LS W9 lb b fr rm s c nt (.slice none 0 0) false ∧ DS W9 b gs gm n L dc S fu fz false) ∧ Blk W9 g7 64 (hdV (srl xs) (cntL xs) (nteL xs)).toArray) := Lib.hid (by have bb : Below W8.heap.size W8 W9 := (Below.refl _ W8).drew.trans h.2; exact ⟨⟨F8.out.1.1.trans (bb.mono F8.out.1.1.size), F8.out.1.2.1.below bb, F8.out.1.2.2.below bb⟩, F8.out.2.below bb⟩)
            clear h F8
            refine wpAnyT_take (i := 6) (oi := ⟨some 68, _, _, _, _, _⟩) (v := .bool true) rfl (by kernel_rfl) (by kernel_rfl) (by kernel_rfl) (fun _ _ _ h => h) (by kernel_rfl) (Or.inl ⟨rfl, fun w h => by kernel_rfl⟩) (F9.out) ?_
            simp only [Act.put, List.setIfInBounds_toArray, List.set_cons_zero, List.set_cons_succ]
            refine wpAnyT_take (i := 7) (oi := ⟨some 69, _, _, _, _, _⟩) (v := .bool true) rfl (by kernel_rfl) (by kernel_rfl) (by kernel_rfl) (fun _ _ _ h => h) (by kernel_rfl) (Or.inl ⟨rfl, fun w h => by kernel_rfl⟩) (F9.out) ?_
            simp only [Act.put, List.setIfInBounds_toArray, List.set_cons_zero, List.set_cons_succ]
            refine wpAnyT_take (i := 8) (oi := ⟨some 70, _, _, _, _, _⟩) (v := .pointer (some ⟨g7, 0, none⟩)) rfl (by kernel_rfl) (by kernel_rfl) (by kernel_rfl) (fun _ _ _ h => h) (by kernel_rfl) (Or.inl ⟨rfl, fun w h => by kernel_rfl⟩) (F9.out) ?_
            simp only [Act.put, List.setIfInBounds_toArray, List.set_cons_zero, List.set_cons_succ]
            refine wpAnyT_take (i := 9) (oi := ⟨some 71, _, _, _, _, _⟩) (v := .int .u64 ((srl xs : Nat) : Int)) rfl (by kernel_rfl) (by kernel_rfl) (by kernel_rfl) (fun _ _ _ h => h) (by kernel_rfl) (Or.inl ⟨rfl, fun w h => run_load_one _ _ _ 35 _ _ rfl (g7) (0) rfl (by rw [h.2.cell]; rfl) (by kernel_rfl)⟩) (F9.out) ?_
            simp only [Act.put, List.setIfInBounds_toArray, List.set_cons_zero, List.set_cons_succ]
            refine wpAnyT_take (i := 10) (oi := ⟨some 72, _, _, _, _, _⟩) (v := .pointer (some ⟨lb, 0, none⟩)) rfl (by kernel_rfl) (by kernel_rfl) (by kernel_rfl) (fun _ _ _ h => h) (by kernel_rfl) (Or.inl ⟨rfl, fun w h => by kernel_rfl⟩) (F9.out) ?_
            simp only [Act.put, List.setIfInBounds_toArray, List.set_cons_zero, List.set_cons_succ]
            refine wpAnyT_take (i := 11) (oi := ⟨some 73, _, _, _, _, _⟩) (v := .pointer (some ⟨lb, 0, none⟩)) rfl (by kernel_rfl) (by kernel_rfl) (by kernel_rfl) (fun _ _ _ h => h) (by kernel_rfl) (Or.inl ⟨rfl, fun w h => by kernel_rfl⟩) (F9.out) ?_
            simp only [Act.put, List.setIfInBounds_toArray, List.set_cons_zero, List.set_cons_succ]
            refine wpAnyT_take (i := 12) (oi := ⟨some 74, _, _, _, _, _⟩) (v := .pointer (some ⟨lb, 3, none⟩)) rfl (by kernel_rfl) (by kernel_rfl) (by kernel_rfl) (fun _ _ _ h => h) (by kernel_rfl) (Or.inl ⟨rfl, fun w h => by kernel_rfl⟩) (F9.out) ?_
            simp only [Act.put, List.setIfInBounds_toArray, List.set_cons_zero, List.set_cons_succ]
            refine wpAnyT_take (i := 13) (oi := ⟨some 75, _, _, _, _, _⟩) (v := .pointer (some ⟨lb, 3, none⟩)) rfl (by kernel_rfl) (by kernel_rfl) (by kernel_rfl) (fun _ _ _ h => h) (by kernel_rfl) (Or.inl ⟨rfl, fun w h => by kernel_rfl⟩) (F9.out) ?_
            simp only [Act.put, List.setIfInBounds_toArray, List.set_cons_zero, List.set_cons_succ]
            refine wpAnyT_take (i := 14) (oi := ⟨some 76, _, _, _, _, _⟩) (v := .int .u64 ((s : Nat) : Int)) rfl (by kernel_rfl) (by kernel_rfl) (by kernel_rfl) (fun _ _ _ h => h) (by kernel_rfl) (Or.inl ⟨rfl, fun w h => run_load_one _ _ _ 35 _ _ rfl (lb) (3) rfl h.1.2.1.c3 (by kernel_rfl)⟩) (F9.out) ?_
            simp only [Act.put, List.setIfInBounds_toArray, List.set_cons_zero, List.set_cons_succ]
            refine wpAnyT_take (i := 15) (oi := ⟨some 77, _, _, _, _, _⟩) (v := .bool false) rfl (by kernel_rfl) (by kernel_rfl) (by kernel_rfl) (fun _ _ _ h => h) (by kernel_rfl) (Or.inl ⟨rfl, fun w h => run_gei Try.underlying35 rfl rfl rfl (by have := HG.out; rw [decide_eq_false_iff_not]; omega)⟩) (F9.out) ?_
            simp only [Act.put, List.setIfInBounds_toArray, List.set_cons_zero, List.set_cons_succ]
            refine wpAnyT_take (i := 16) (oi := ⟨some 78, _, _, _, _, _⟩) (v := .bool false) rfl (by kernel_rfl) (by kernel_rfl) (by kernel_rfl) (fun _ _ _ h => h) (by kernel_rfl) (Or.inl ⟨rfl, fun w h => by kernel_rfl⟩) (F9.out) ?_
            simp only [Act.put, List.setIfInBounds_toArray, List.set_cons_zero, List.set_cons_succ]
            refine wpAnyT_done (by kernel_rfl) ?_ _
            go_upto_region 13 with (fail)
            refine wp_region_lit ?_
            refine wpL_pure (.int .i64 ((k + 1 : Nat) : Int)) rfl (run_addi Try.underlying3 rfl rfl rfl _ (by have := HK.out; rw [wrap_in _ (by omega) (by omega)]; omega)) ?_
            simp only [Act.put, List.setIfInBounds_toArray, List.set_cons_zero, List.set_cons_succ]
            refine wpL_pure (.int .i64 ((k + 1 : Nat) : Int)) rfl (by kernel_rfl) ?_
            simp only [Act.put, List.setIfInBounds_toArray, List.set_cons_zero, List.set_cons_succ]
            have HN : Hid (hk rm S fr (k + 1) = (s, c, nt)) := Lib.hid (by rw [hk, getD_some HO.out, HH.out, stepH, if_neg (by rw [HW.out, HF.out, decide_eq_false HG.out]; simp)])
            have NX : Hid (k + 1 ≤ 2 ∧ Below w.heap.size w W9 ∧ LS W9 lb b fr rm (hk rm S fr (k + 1)).1 (hk rm S fr (k + 1)).2.1 (hk rm S fr (k + 1)).2.2 (.slice none 0 0) false ∧ DS W9 b gs gm n L dc S fu fz false) := Lib.hid (by rw [HN.out]; exact ⟨HK.out, F9.out.1⟩)
            clear HN
            unfold wpList
            go_roundw
            case rel => first | exact ⟨_, rfl, NX⟩ | ((repeat apply Exists.intro); exact ⟨⟨_, rfl, NX⟩, rfl⟩)
            case measure => simp [intOf]; have := HK.out; omega
    · have EK : Hid (k = 2) := Lib.hid (by have := RK.out; omega)
      clear hlt
      obtain ⟨s, hs⟩ : ∃ q, (hk rm S fr 2).1 = q := ⟨_, rfl⟩
      obtain ⟨cn, hc⟩ : ∃ q, (hk rm S fr 2).2.1 = q := ⟨_, rfl⟩
      obtain ⟨nt, hnt⟩ : ∃ q, (hk rm S fr 2).2.2 = q := ⟨_, rfl⟩
      have HH : Hid (hk rm S fr 2 = (s, cn, nt)) := Lib.hid (by rw [← hs, ← hc, ← hnt])
      rw [EK.out, hs, hc, hnt] at RI
      clear hs hc hnt
      have CM : Hid (cn ≤ rm * 64) := Lib.hid (by have q := hk_cnt rm S fr 2; rw [HH.out] at q; exact q)
      go_upto_region 5 with (fail)
      refine wp_region_lit ?_
      refine wpL_pure (.bool false) rfl (run_lti Try.underlying3 rfl rfl rfl (by have := EK.out; rw [decide_eq_false_iff_not]; omega)) ?_
      simp only [Act.put, List.setIfInBounds_toArray, List.set_cons_zero, List.set_cons_succ]
      go_upto_region 14 with (fail)
      refine wp_region_lit ?_
      refine wpL_pure (.int .i64 0) rfl (by kernel_rfl) ?_
      simp only [Act.put, List.setIfInBounds_toArray, List.set_cons_zero, List.set_cons_succ]
      unfold wpList
      go_wp2_with fail
      go_loopw [14] (fun s14 wr => ∃ (i : Nat) (va : Option Addr) (vc : Nat), s14 = .int .i64 (i : Int) ∧ Hid (i ≤ rm ∧ Below w.heap.size w wr ∧ LS wr lb b fr rm s cn nt (.slice va (64 * i) vc) false ∧ DS wr b gs gm n L dc S fu fz false ∧ Own wr (lb + 1) (.slice va (64 * i) vc) (roomL S fr i))) (fun s14 _ => rm - (intOf s14).toNat)
      case atStart => exact ⟨0, none, 0, rfl, Lib.hid ⟨by omega, RI.out.1, RI.out.2.1, RI.out.2.2, Own.nil _ _⟩⟩
      case round =>
        obtain ⟨i, va, vc, rfl, RJ0⟩ := hrel
        have RJ := Lib.hid RJ0.out.2
        have RL := Lib.hid RJ0.out.1
        clear RJ0 RI
        by_cases hlt : 64 * i < cn
        · have HL := Lib.hid hlt
          clear hlt
          have HI : Hid (i < rm) := Lib.hid (by have := HL.out; have := CM.out; omega)
          go_upto_region 15 with (fail)
          refine region_anyT (fun X => Below w.heap.size w X ∧ LS X lb b fr rm s cn nt (.slice va (64 * i) vc) false ∧ DS X b gs gm n L dc S fu fz false ∧ Own X (lb + 1) (.slice va (64 * i) vc) (roomL S fr i)) (by kernel_rfl) 12 12 rfl ?_
          refine wpAnyT_take (i := 0) (oi := ⟨some 84, _, _, _, _, _⟩) (v := .pointer (some ⟨lb, 0, none⟩)) rfl (by kernel_rfl) (by kernel_rfl) (by kernel_rfl) (fun _ _ _ h => h) (by kernel_rfl) (Or.inl ⟨rfl, fun w h => by kernel_rfl⟩) (⟨RJ.out.1.drew, RJ.out.2.1, RJ.out.2.2.1, RJ.out.2.2.2⟩) ?_
          simp only [Act.put, List.setIfInBounds_toArray, List.set_cons_zero, List.set_cons_succ]
          refine wpAnyT_take (i := 1) (oi := ⟨some 85, _, _, _, _, _⟩) (v := .pointer (some ⟨lb, 0, none⟩)) rfl (by kernel_rfl) (by kernel_rfl) (by kernel_rfl) (fun _ _ _ h => h) (by kernel_rfl) (Or.inl ⟨rfl, fun w h => by kernel_rfl⟩) (⟨RJ.out.1.drew, RJ.out.2.1, RJ.out.2.2.1, RJ.out.2.2.2⟩) ?_
          simp only [Act.put, List.setIfInBounds_toArray, List.set_cons_zero, List.set_cons_succ]
          refine wpAnyT_take (i := 2) (oi := ⟨some 86, _, _, _, _, _⟩) (v := .pointer (some ⟨lb, 21, none⟩)) rfl (by kernel_rfl) (by kernel_rfl) (by kernel_rfl) (fun _ _ _ h => h) (by kernel_rfl) (Or.inl ⟨rfl, fun w h => by kernel_rfl⟩) (⟨RJ.out.1.drew, RJ.out.2.1, RJ.out.2.2.1, RJ.out.2.2.2⟩) ?_
          simp only [Act.put, List.setIfInBounds_toArray, List.set_cons_zero, List.set_cons_succ]
          refine wpAnyT_take (i := 3) (oi := ⟨some 87, _, _, _, _, _⟩) (v := .slice va (64 * i) vc) rfl (by kernel_rfl) (by kernel_rfl) (by kernel_rfl) (fun _ _ _ h => h) (by kernel_rfl) (Or.inl ⟨rfl, fun w h => run_load_one _ _ _ 26 _ _ rfl (lb) (21) rfl h.2.1.c21 (by kernel_rfl)⟩) (⟨RJ.out.1.drew, RJ.out.2.1, RJ.out.2.2.1, RJ.out.2.2.2⟩) ?_
          simp only [Act.put, List.setIfInBounds_toArray, List.set_cons_zero, List.set_cons_succ]
          refine wpAnyT_take (i := 4) (oi := ⟨some 88, _, _, _, _, _⟩) (v := .int .i64 ((64 * i : Nat) : Int)) rfl (by kernel_rfl) (by kernel_rfl) (by kernel_rfl) (fun _ _ _ h => h) (by kernel_rfl) (Or.inl ⟨rfl, fun w h => by kernel_rfl⟩) (⟨RJ.out.1.drew, RJ.out.2.1, RJ.out.2.2.1, RJ.out.2.2.2⟩) ?_
          simp only [Act.put, List.setIfInBounds_toArray, List.set_cons_zero, List.set_cons_succ]
          refine wpAnyT_take (i := 5) (oi := ⟨some 89, _, _, _, _, _⟩) (v := .pointer (some ⟨lb, 0, none⟩)) rfl (by kernel_rfl) (by kernel_rfl) (by kernel_rfl) (fun _ _ _ h => h) (by kernel_rfl) (Or.inl ⟨rfl, fun w h => by kernel_rfl⟩) (⟨RJ.out.1.drew, RJ.out.2.1, RJ.out.2.2.1, RJ.out.2.2.2⟩) ?_
          simp only [Act.put, List.setIfInBounds_toArray, List.set_cons_zero, List.set_cons_succ]
          refine wpAnyT_take (i := 6) (oi := ⟨some 90, _, _, _, _, _⟩) (v := .pointer (some ⟨lb, 0, none⟩)) rfl (by kernel_rfl) (by kernel_rfl) (by kernel_rfl) (fun _ _ _ h => h) (by kernel_rfl) (Or.inl ⟨rfl, fun w h => by kernel_rfl⟩) (⟨RJ.out.1.drew, RJ.out.2.1, RJ.out.2.2.1, RJ.out.2.2.2⟩) ?_
          simp only [Act.put, List.setIfInBounds_toArray, List.set_cons_zero, List.set_cons_succ]
          refine wpAnyT_take (i := 7) (oi := ⟨some 91, _, _, _, _, _⟩) (v := .pointer (some ⟨lb, 3, none⟩)) rfl (by kernel_rfl) (by kernel_rfl) (by kernel_rfl) (fun _ _ _ h => h) (by kernel_rfl) (Or.inl ⟨rfl, fun w h => by kernel_rfl⟩) (⟨RJ.out.1.drew, RJ.out.2.1, RJ.out.2.2.1, RJ.out.2.2.2⟩) ?_
          simp only [Act.put, List.setIfInBounds_toArray, List.set_cons_zero, List.set_cons_succ]
          refine wpAnyT_take (i := 8) (oi := ⟨some 92, _, _, _, _, _⟩) (v := .pointer (some ⟨lb, 4, none⟩)) rfl (by kernel_rfl) (by kernel_rfl) (by kernel_rfl) (fun _ _ _ h => h) (by kernel_rfl) (Or.inl ⟨rfl, fun w h => by kernel_rfl⟩) (⟨RJ.out.1.drew, RJ.out.2.1, RJ.out.2.2.1, RJ.out.2.2.2⟩) ?_
          simp only [Act.put, List.setIfInBounds_toArray, List.set_cons_zero, List.set_cons_succ]
          refine wpAnyT_take (i := 9) (oi := ⟨some 93, _, _, _, _, _⟩) (v := .int .u64 ((cn : Nat) : Int)) rfl (by kernel_rfl) (by kernel_rfl) (by kernel_rfl) (fun _ _ _ h => h) (by kernel_rfl) (Or.inl ⟨rfl, fun w h => run_load_one _ _ _ 35 _ _ rfl (lb) (4) rfl h.2.1.c4 (by kernel_rfl)⟩) (⟨RJ.out.1.drew, RJ.out.2.1, RJ.out.2.2.1, RJ.out.2.2.2⟩) ?_
          simp only [Act.put, List.setIfInBounds_toArray, List.set_cons_zero, List.set_cons_succ]
          refine wpAnyT_take (i := 10) (oi := ⟨some 94, _, _, _, _, _⟩) (v := .int .i64 ((cn : Nat) : Int)) rfl (by kernel_rfl) (by kernel_rfl) (by kernel_rfl) (fun _ _ _ h => h) (by kernel_rfl) (Or.inl ⟨rfl, fun w h => run_convi Try.underlying35 Try.underlying3 rfl rfl _ (by have := CM.out; have := F.out; rw [wrap_in _ (by omega) (by omega)])⟩) (⟨RJ.out.1.drew, RJ.out.2.1, RJ.out.2.2.1, RJ.out.2.2.2⟩) ?_
          simp only [Act.put, List.setIfInBounds_toArray, List.set_cons_zero, List.set_cons_succ]
          refine wpAnyT_take (i := 11) (oi := ⟨some 95, _, _, _, _, _⟩) (v := .bool true) rfl (by kernel_rfl) (by kernel_rfl) (by kernel_rfl) (fun _ _ _ h => h) (by kernel_rfl) (Or.inl ⟨rfl, fun w h => run_lti Try.underlying3 rfl rfl rfl (by have := HL.out; rw [decide_eq_true_eq]; omega)⟩) (⟨RJ.out.1.drew, RJ.out.2.1, RJ.out.2.2.1, RJ.out.2.2.2⟩) ?_
          simp only [Act.put, List.setIfInBounds_toArray, List.set_cons_zero, List.set_cons_succ]
          refine wpAnyT_done (by kernel_rfl) ?_ _
          have R0 : Hid (Below w.heap.size w wr.drew ∧ LS wr.drew lb b fr rm s cn nt (.slice va (64 * i) vc) false ∧ DS wr.drew b gs gm n L dc S fu fz false ∧ Own wr.drew (lb + 1) (.slice va (64 * i) vc) (roomL S fr i)) := Lib.hid ⟨RJ.out.1.drew, RJ.out.2.1, RJ.out.2.2.1, RJ.out.2.2.2⟩
          go_upto_region 17 with (fail)
          refine wp_region_lit ?_
          refine wpL_pure (.pointer (some ⟨b, 0, none⟩)) rfl (by kernel_rfl) ?_
          simp only [Act.put, List.setIfInBounds_toArray, List.set_cons_zero, List.set_cons_succ]
          refine wpL_pure (.pointer (some ⟨lb, 0, none⟩)) rfl (by kernel_rfl) ?_
          simp only [Act.put, List.setIfInBounds_toArray, List.set_cons_zero, List.set_cons_succ]
          refine wpL_pure (.int .i64 (i : Int)) rfl (by kernel_rfl) ?_
          simp only [Act.put, List.setIfInBounds_toArray, List.set_cons_zero, List.set_cons_succ]
          refine wpL_call 33 #[.pointer (some ⟨lb, 0, none⟩), .int .i64 (i : Int)] rfl (by kernel_rfl) ((sectorD R0.out.2.1 i (by have := HI.out; have := F.out; omega)).mono fun e X ⟨he, hx⟩ => ⟨.int .i64 ((fr + 2 + i : Nat) : Int), he, ?_⟩)
          simp only [Act.put, List.setIfInBounds_toArray, List.set_cons_zero, List.set_cons_succ]
          subst hx
          refine wpL_call 30 #[.pointer (some ⟨b, 0, none⟩), .int .i64 ((fr + 2 + i : Nat) : Int)] rfl (by kernel_rfl) ((read_in R0.out.2.2.1 (fr + 2 + i) (by have := F.out; have := HI.out; omega)).mono ?_)
          rintro e W5 ⟨xs, v9, hO, he, ho, bb⟩
          have OO : Hid (SOk xs) := Lib.hid (R0.out.2.2.1.2.2.2.2.2.1 xs (List.mem_of_getElem? hO))
          obtain ⟨g9, c9, e9, r9, k9, l9, m9⟩ := own_slice64 ho OO.out.1
          subst e9
          have F5 : Hid ((Below w.heap.size w W5 ∧ LS W5 lb b fr rm s cn nt (.slice va (64 * i) vc) false ∧ DS W5 b gs gm n L dc S fu fz false ∧ Own W5 (lb + 1) (.slice va (64 * i) vc) (roomL S fr i)) ∧ Row W5 (some ⟨g9, 0, none⟩) 64 xs) := Lib.hid ⟨⟨R0.out.1.trans (bb.mono R0.out.1.size), R0.out.2.1.below bb, R0.out.2.2.1.below bb, R0.out.2.2.2.below bb⟩, r9⟩
          have HO := Lib.hid hO
          clear hO bb ho r9 k9 l9 m9 R0
          refine ⟨.tuple #[.slice (some ⟨g9, 0, none⟩) 64 c9, .int .i64 0], he, ?_⟩
          simp only [Act.put, List.setIfInBounds_toArray, List.set_cons_zero, List.set_cons_succ]
          clear he
          refine wpL_pure (.tuple #[.slice (some ⟨g9, 0, none⟩) 64 c9, .int .i64 0]) rfl (by kernel_rfl) ?_
          simp only [Act.put, List.setIfInBounds_toArray, List.set_cons_zero, List.set_cons_succ]
          refine wpL_pure (.slice (some ⟨g9, 0, none⟩) 64 c9) rfl (by kernel_rfl) ?_
          simp only [Act.put, List.setIfInBounds_toArray, List.set_cons_zero, List.set_cons_succ]
          refine wpL_pure (.int .i64 0) rfl (by kernel_rfl) ?_
          simp only [Act.put, List.setIfInBounds_toArray, List.set_cons_zero, List.set_cons_succ]
          refine wpL_pure (.slice (some ⟨g9, 0, none⟩) 64 c9) rfl (by kernel_rfl) ?_
          simp only [Act.put, List.setIfInBounds_toArray, List.set_cons_zero, List.set_cons_succ]
          refine wpL_pure (.int .i64 0) rfl (by kernel_rfl) ?_
          simp only [Act.put, List.setIfInBounds_toArray, List.set_cons_zero, List.set_cons_succ]
          go_upto_region 18 with (fail)
          refine wp_region_lit ?_
          refine wpL_pure (.int .i64 0) rfl (by kernel_rfl) ?_
          simp only [Act.put, List.setIfInBounds_toArray, List.set_cons_zero, List.set_cons_succ]
          refine wpL_pure (.bool false) rfl (by kernel_rfl) ?_
          simp only [Act.put, List.setIfInBounds_toArray, List.set_cons_zero, List.set_cons_succ]
          have RLN : Hid ((roomL S fr i).length = 64 * i) := Lib.hid (roomL_len (fun j hj => by have := F.out; have := HI.out; exact F5.out.1.2.2.1.at (by omega)))
          go_upto_region 20 with (fail)
          refine wp_region_lit ?_
          refine wpL_pure (.pointer (some ⟨lb, 0, none⟩)) rfl (by kernel_rfl) ?_
          simp only [Act.put, List.setIfInBounds_toArray, List.set_cons_zero, List.set_cons_succ]
          refine wpL_pure (.pointer (some ⟨lb, 0, none⟩)) rfl (by kernel_rfl) ?_
          simp only [Act.put, List.setIfInBounds_toArray, List.set_cons_zero, List.set_cons_succ]
          refine wpL_pure (.pointer (some ⟨lb, 0, none⟩)) rfl (by kernel_rfl) ?_
          simp only [Act.put, List.setIfInBounds_toArray, List.set_cons_zero, List.set_cons_succ]
          refine wpL_pure (.pointer (some ⟨lb, 21, none⟩)) rfl (by kernel_rfl) ?_
          simp only [Act.put, List.setIfInBounds_toArray, List.set_cons_zero, List.set_cons_succ]
          refine wpL_pure (.slice va (64 * i) vc) rfl (run_load_one _ _ _ 26 _ _ rfl (lb) (21) rfl (F5.out.1.2.1.c21) (by kernel_rfl)) ?_
          simp only [Act.put, List.setIfInBounds_toArray, List.set_cons_zero, List.set_cons_succ]
          refine wpL_pure (.slice (some ⟨g9, 0, none⟩) 64 c9) rfl (by kernel_rfl) ?_
          simp only [Act.put, List.setIfInBounds_toArray, List.set_cons_zero, List.set_cons_succ]
          obtain ⟨v6, W6, r1, r2, r3, r4, r5⟩ := append_own W5 (lb + 1) (.slice va (64 * i) vc) (roomL S fr i) (xs) (some ⟨g9, 0, none⟩) 64 c9 (F5.out.1.2.2.2) (F5.out.2) (by rw [RLN.out]; have := HI.out; have := F.out; omega) (own_base F5.out.1.2.1.1)
          have R1 := Lib.hid r1
          obtain ⟨xa, xc, e4⟩ := r2.slice
          have e5 : v6 = .slice xa (64 * (i + 1)) xc := by rw [e4, List.length_append, RLN.out, OO.out.1]; rfl
          subst e5
          have F6 : Hid (Below w.heap.size w W6 ∧ LS W6 lb b fr rm s cn nt (.slice va (64 * i) vc) false ∧ DS W6 b gs gm n L dc S fu fz false ∧ Own W6 (lb + 1) (.slice xa (64 * (i + 1)) xc) (roomL S fr (i + 1))) := Lib.hid (by have l3 := D.out.lts; have e := LB.out; have nz : ∀ k, (Value.slice va (64 * i) vc).ownBlock = some k → lb + 1 ≤ k := fun k hk => (F5.out.1.2.2.2.lt k hk).1; exact ⟨F5.out.1.1.grown r3 F5.out.1.1.size (fun j hj => by have := nz j hj; omega), ⟨F5.out.1.2.1.1.grown r3 (fun z => by have := nz lb z.symm; omega), F5.out.1.2.1.2⟩, ds_farO F5.out.1.2.2.1 r3 ⟨fun z => by have := nz b z.symm; omega, fun z => by have := nz gs z.symm; omega, fun z => by have := nz gm z.symm; omega⟩, by rw [roomL, getD_some HO.out]; exact r2⟩)
          clear r1 r2 r3 r4 r5
          refine wpL_value (.slice xa (64 * (i + 1)) xc) W6 rfl (run_app _ _ _ _ _ _ _ _ _ rfl rfl rfl rfl R1.out) ?_
          simp only [Act.put, List.setIfInBounds_toArray, List.set_cons_zero, List.set_cons_succ]
          clear R1
          refine wpL_pure (.pointer (some ⟨lb, 0, none⟩)) rfl (by kernel_rfl) ?_
          simp only [Act.put, List.setIfInBounds_toArray, List.set_cons_zero, List.set_cons_succ]
          refine wpL_pure (.pointer (some ⟨lb, 21, none⟩)) rfl (by kernel_rfl) ?_
          simp only [Act.put, List.setIfInBounds_toArray, List.set_cons_zero, List.set_cons_succ]
          refine wpL_store_one rfl rfl (lb) (21) rfl (.slice xa (64 * (i + 1)) xc) rfl rfl size26 (by rw [F6.out.2.1.c21]; rfl) (F6.out.2.1.1.free 21) ?_
          simp only [Act.put, List.setIfInBounds_toArray, List.set_cons_zero, List.set_cons_succ]
          obtain ⟨W7, hW7⟩ : ∃ V, V = W6.setCell ⟨lb, 21, none⟩ (.slice xa (64 * (i + 1)) xc) := ⟨_, rfl⟩
          rw [← hW7]
          have NX : Hid (i + 1 ≤ rm ∧ Below w.heap.size w W7 ∧ LS W7 lb b fr rm s cn nt (.slice xa (64 * (i + 1)) xc) false ∧ DS W7 b gs gm n L dc S fu fz false ∧ Own W7 (lb + 1) (.slice xa (64 * (i + 1)) xc) (roomL S fr (i + 1))) := Lib.hid (by have l3 := D.out.lts; have e := LB.out; rw [hW7]; exact ⟨HI.out, F6.out.1.setCell (p := ⟨lb, 21, none⟩) (Nat.le_of_eq e) _, F6.out.2.1.bytes _, ds_far F6.out.2.2.1 (gb_set (gb_refl W6 (some lb)) 21 _) (by omega), F6.out.2.2.2.other ⟨lb, 21, none⟩ _ (fun z => by have := (F6.out.2.2.2.lt lb z).1; omega)⟩)
          clear hW7 F6 F5
          go_upto_region 16 with (fail)
          refine wp_region_lit ?_
          refine wpL_pure (.int .i64 (i : Int)) rfl (by kernel_rfl) ?_
          simp only [Act.put, List.setIfInBounds_toArray, List.set_cons_zero, List.set_cons_succ]
          refine wpL_pure (.int .i64 ((i + 1 : Nat) : Int)) rfl (run_addi Try.underlying3 rfl rfl rfl _ (by have := HI.out; have := F.out; rw [wrap_in _ (by omega) (by omega)]; omega)) ?_
          simp only [Act.put, List.setIfInBounds_toArray, List.set_cons_zero, List.set_cons_succ]
          refine wpL_pure (.int .i64 ((i + 1 : Nat) : Int)) rfl (by kernel_rfl) ?_
          simp only [Act.put, List.setIfInBounds_toArray, List.set_cons_zero, List.set_cons_succ]
          unfold wpList
          go_roundw
          case rel => first | exact ⟨_, _, _, rfl, NX⟩ | ((repeat apply Exists.intro); exact ⟨⟨_, _, _, rfl, NX⟩, rfl⟩)
          case measure => simp [intOf]; have := HI.out; omega
        · have HL : Hid (¬ 64 * i < cn) := Lib.hid hlt
          clear hlt
          have RLN : Hid ((roomL S fr i).length = 64 * i) := Lib.hid (roomL_len (fun j hj => by have := F.out; have := RL.out; exact RJ.out.2.2.1.at (by omega)))
          go_upto_region 15 with (fail)
          refine region_anyT (fun X => Below w.heap.size w X ∧ LS X lb b fr rm s cn nt (.slice va (64 * i) vc) false ∧ DS X b gs gm n L dc S fu fz false ∧ Own X (lb + 1) (.slice va (64 * i) vc) (roomL S fr i)) (by kernel_rfl) 12 12 rfl ?_
          refine wpAnyT_take (i := 0) (oi := ⟨some 84, _, _, _, _, _⟩) (v := .pointer (some ⟨lb, 0, none⟩)) rfl (by kernel_rfl) (by kernel_rfl) (by kernel_rfl) (fun _ _ _ h => h) (by kernel_rfl) (Or.inl ⟨rfl, fun w h => by kernel_rfl⟩) (⟨RJ.out.1.drew, RJ.out.2.1, RJ.out.2.2.1, RJ.out.2.2.2⟩) ?_
          simp only [Act.put, List.setIfInBounds_toArray, List.set_cons_zero, List.set_cons_succ]
          refine wpAnyT_take (i := 1) (oi := ⟨some 85, _, _, _, _, _⟩) (v := .pointer (some ⟨lb, 0, none⟩)) rfl (by kernel_rfl) (by kernel_rfl) (by kernel_rfl) (fun _ _ _ h => h) (by kernel_rfl) (Or.inl ⟨rfl, fun w h => by kernel_rfl⟩) (⟨RJ.out.1.drew, RJ.out.2.1, RJ.out.2.2.1, RJ.out.2.2.2⟩) ?_
          simp only [Act.put, List.setIfInBounds_toArray, List.set_cons_zero, List.set_cons_succ]
          refine wpAnyT_take (i := 2) (oi := ⟨some 86, _, _, _, _, _⟩) (v := .pointer (some ⟨lb, 21, none⟩)) rfl (by kernel_rfl) (by kernel_rfl) (by kernel_rfl) (fun _ _ _ h => h) (by kernel_rfl) (Or.inl ⟨rfl, fun w h => by kernel_rfl⟩) (⟨RJ.out.1.drew, RJ.out.2.1, RJ.out.2.2.1, RJ.out.2.2.2⟩) ?_
          simp only [Act.put, List.setIfInBounds_toArray, List.set_cons_zero, List.set_cons_succ]
          refine wpAnyT_take (i := 3) (oi := ⟨some 87, _, _, _, _, _⟩) (v := .slice va (64 * i) vc) rfl (by kernel_rfl) (by kernel_rfl) (by kernel_rfl) (fun _ _ _ h => h) (by kernel_rfl) (Or.inl ⟨rfl, fun w h => run_load_one _ _ _ 26 _ _ rfl (lb) (21) rfl h.2.1.c21 (by kernel_rfl)⟩) (⟨RJ.out.1.drew, RJ.out.2.1, RJ.out.2.2.1, RJ.out.2.2.2⟩) ?_
          simp only [Act.put, List.setIfInBounds_toArray, List.set_cons_zero, List.set_cons_succ]
          refine wpAnyT_take (i := 4) (oi := ⟨some 88, _, _, _, _, _⟩) (v := .int .i64 ((64 * i : Nat) : Int)) rfl (by kernel_rfl) (by kernel_rfl) (by kernel_rfl) (fun _ _ _ h => h) (by kernel_rfl) (Or.inl ⟨rfl, fun w h => by kernel_rfl⟩) (⟨RJ.out.1.drew, RJ.out.2.1, RJ.out.2.2.1, RJ.out.2.2.2⟩) ?_
          simp only [Act.put, List.setIfInBounds_toArray, List.set_cons_zero, List.set_cons_succ]
          refine wpAnyT_take (i := 5) (oi := ⟨some 89, _, _, _, _, _⟩) (v := .pointer (some ⟨lb, 0, none⟩)) rfl (by kernel_rfl) (by kernel_rfl) (by kernel_rfl) (fun _ _ _ h => h) (by kernel_rfl) (Or.inl ⟨rfl, fun w h => by kernel_rfl⟩) (⟨RJ.out.1.drew, RJ.out.2.1, RJ.out.2.2.1, RJ.out.2.2.2⟩) ?_
          simp only [Act.put, List.setIfInBounds_toArray, List.set_cons_zero, List.set_cons_succ]
          refine wpAnyT_take (i := 6) (oi := ⟨some 90, _, _, _, _, _⟩) (v := .pointer (some ⟨lb, 0, none⟩)) rfl (by kernel_rfl) (by kernel_rfl) (by kernel_rfl) (fun _ _ _ h => h) (by kernel_rfl) (Or.inl ⟨rfl, fun w h => by kernel_rfl⟩) (⟨RJ.out.1.drew, RJ.out.2.1, RJ.out.2.2.1, RJ.out.2.2.2⟩) ?_
          simp only [Act.put, List.setIfInBounds_toArray, List.set_cons_zero, List.set_cons_succ]
          refine wpAnyT_take (i := 7) (oi := ⟨some 91, _, _, _, _, _⟩) (v := .pointer (some ⟨lb, 3, none⟩)) rfl (by kernel_rfl) (by kernel_rfl) (by kernel_rfl) (fun _ _ _ h => h) (by kernel_rfl) (Or.inl ⟨rfl, fun w h => by kernel_rfl⟩) (⟨RJ.out.1.drew, RJ.out.2.1, RJ.out.2.2.1, RJ.out.2.2.2⟩) ?_
          simp only [Act.put, List.setIfInBounds_toArray, List.set_cons_zero, List.set_cons_succ]
          refine wpAnyT_take (i := 8) (oi := ⟨some 92, _, _, _, _, _⟩) (v := .pointer (some ⟨lb, 4, none⟩)) rfl (by kernel_rfl) (by kernel_rfl) (by kernel_rfl) (fun _ _ _ h => h) (by kernel_rfl) (Or.inl ⟨rfl, fun w h => by kernel_rfl⟩) (⟨RJ.out.1.drew, RJ.out.2.1, RJ.out.2.2.1, RJ.out.2.2.2⟩) ?_
          simp only [Act.put, List.setIfInBounds_toArray, List.set_cons_zero, List.set_cons_succ]
          refine wpAnyT_take (i := 9) (oi := ⟨some 93, _, _, _, _, _⟩) (v := .int .u64 ((cn : Nat) : Int)) rfl (by kernel_rfl) (by kernel_rfl) (by kernel_rfl) (fun _ _ _ h => h) (by kernel_rfl) (Or.inl ⟨rfl, fun w h => run_load_one _ _ _ 35 _ _ rfl (lb) (4) rfl h.2.1.c4 (by kernel_rfl)⟩) (⟨RJ.out.1.drew, RJ.out.2.1, RJ.out.2.2.1, RJ.out.2.2.2⟩) ?_
          simp only [Act.put, List.setIfInBounds_toArray, List.set_cons_zero, List.set_cons_succ]
          refine wpAnyT_take (i := 10) (oi := ⟨some 94, _, _, _, _, _⟩) (v := .int .i64 ((cn : Nat) : Int)) rfl (by kernel_rfl) (by kernel_rfl) (by kernel_rfl) (fun _ _ _ h => h) (by kernel_rfl) (Or.inl ⟨rfl, fun w h => run_convi Try.underlying35 Try.underlying3 rfl rfl _ (by have := CM.out; have := F.out; rw [wrap_in _ (by omega) (by omega)])⟩) (⟨RJ.out.1.drew, RJ.out.2.1, RJ.out.2.2.1, RJ.out.2.2.2⟩) ?_
          simp only [Act.put, List.setIfInBounds_toArray, List.set_cons_zero, List.set_cons_succ]
          refine wpAnyT_take (i := 11) (oi := ⟨some 95, _, _, _, _, _⟩) (v := .bool false) rfl (by kernel_rfl) (by kernel_rfl) (by kernel_rfl) (fun _ _ _ h => h) (by kernel_rfl) (Or.inl ⟨rfl, fun w h => run_lti Try.underlying3 rfl rfl rfl (by have := HL.out; rw [decide_eq_false_iff_not]; omega)⟩) (⟨RJ.out.1.drew, RJ.out.2.1, RJ.out.2.2.1, RJ.out.2.2.2⟩) ?_
          simp only [Act.put, List.setIfInBounds_toArray, List.set_cons_zero, List.set_cons_succ]
          refine wpAnyT_done (by kernel_rfl) ?_ _
          have R0 : Hid (Below w.heap.size w wr.drew ∧ LS wr.drew lb b fr rm s cn nt (.slice va (64 * i) vc) false ∧ DS wr.drew b gs gm n L dc S fu fz false ∧ Own wr.drew (lb + 1) (.slice va (64 * i) vc) (roomL S fr i)) := Lib.hid ⟨RJ.out.1.drew, RJ.out.2.1, RJ.out.2.2.1, RJ.out.2.2.2⟩
          go_upto_region 21 with (fail)
          refine region_anyT (fun X => X.cell? ⟨lb, 4, none⟩ = some (.int .u64 ((cn : Nat) : Int)) ∧ True) (by kernel_rfl) 14 14 rfl ?_
          refine wpAnyT_take (i := 0) (oi := ⟨some 118, _, _, _, _, _⟩) (v := .pointer (some ⟨lb, 0, none⟩)) rfl (by kernel_rfl) (by kernel_rfl) (by kernel_rfl) (fun _ _ _ h => h) (by kernel_rfl) (Or.inl ⟨rfl, fun w h => by kernel_rfl⟩) (⟨R0.out.2.1.c4, trivial⟩) ?_
          simp only [Act.put, List.setIfInBounds_toArray, List.set_cons_zero, List.set_cons_succ]
          refine wpAnyT_take (i := 1) (oi := ⟨some 119, _, _, _, _, _⟩) (v := .pointer (some ⟨lb, 0, none⟩)) rfl (by kernel_rfl) (by kernel_rfl) (by kernel_rfl) (fun _ _ _ h => h) (by kernel_rfl) (Or.inl ⟨rfl, fun w h => by kernel_rfl⟩) (⟨R0.out.2.1.c4, trivial⟩) ?_
          simp only [Act.put, List.setIfInBounds_toArray, List.set_cons_zero, List.set_cons_succ]
          refine wpAnyT_take (i := 2) (oi := ⟨some 120, _, _, _, _, _⟩) (v := .pointer (some ⟨lb, 0, none⟩)) rfl (by kernel_rfl) (by kernel_rfl) (by kernel_rfl) (fun _ _ _ h => h) (by kernel_rfl) (Or.inl ⟨rfl, fun w h => by kernel_rfl⟩) (⟨R0.out.2.1.c4, trivial⟩) ?_
          simp only [Act.put, List.setIfInBounds_toArray, List.set_cons_zero, List.set_cons_succ]
          refine wpAnyT_take (i := 3) (oi := ⟨some 121, _, _, _, _, _⟩) (v := .pointer (some ⟨lb, 21, none⟩)) rfl (by kernel_rfl) (by kernel_rfl) (by kernel_rfl) (fun _ _ _ h => h) (by kernel_rfl) (Or.inl ⟨rfl, fun w h => by kernel_rfl⟩) (⟨R0.out.2.1.c4, trivial⟩) ?_
          simp only [Act.put, List.setIfInBounds_toArray, List.set_cons_zero, List.set_cons_succ]
          refine wpAnyT_take (i := 5) (oi := ⟨some 123, _, _, _, _, _⟩) (v := .pointer (some ⟨lb, 0, none⟩)) rfl (by kernel_rfl) (by kernel_rfl) (by kernel_rfl) (fun _ _ _ h => h) (by kernel_rfl) (Or.inl ⟨rfl, fun w h => by kernel_rfl⟩) (⟨R0.out.2.1.c4, trivial⟩) ?_
          simp only [Act.put, List.setIfInBounds_toArray, List.set_cons_zero, List.set_cons_succ]
          refine wpAnyT_take (i := 6) (oi := ⟨some 124, _, _, _, _, _⟩) (v := .pointer (some ⟨lb, 0, none⟩)) rfl (by kernel_rfl) (by kernel_rfl) (by kernel_rfl) (fun _ _ _ h => h) (by kernel_rfl) (Or.inl ⟨rfl, fun w h => by kernel_rfl⟩) (⟨R0.out.2.1.c4, trivial⟩) ?_
          simp only [Act.put, List.setIfInBounds_toArray, List.set_cons_zero, List.set_cons_succ]
          refine wpAnyT_take (i := 7) (oi := ⟨some 125, _, _, _, _, _⟩) (v := .pointer (some ⟨lb, 3, none⟩)) rfl (by kernel_rfl) (by kernel_rfl) (by kernel_rfl) (fun _ _ _ h => h) (by kernel_rfl) (Or.inl ⟨rfl, fun w h => by kernel_rfl⟩) (⟨R0.out.2.1.c4, trivial⟩) ?_
          simp only [Act.put, List.setIfInBounds_toArray, List.set_cons_zero, List.set_cons_succ]
          refine wpAnyT_take (i := 8) (oi := ⟨some 126, _, _, _, _, _⟩) (v := .pointer (some ⟨lb, 4, none⟩)) rfl (by kernel_rfl) (by kernel_rfl) (by kernel_rfl) (fun _ _ _ h => h) (by kernel_rfl) (Or.inl ⟨rfl, fun w h => by kernel_rfl⟩) (⟨R0.out.2.1.c4, trivial⟩) ?_
          simp only [Act.put, List.setIfInBounds_toArray, List.set_cons_zero, List.set_cons_succ]
          refine wpAnyT_take (i := 9) (oi := ⟨some 127, _, _, _, _, _⟩) (v := .int .u64 ((cn : Nat) : Int)) rfl (by kernel_rfl) (by kernel_rfl) (by kernel_rfl) (fun _ _ _ h => h) (by kernel_rfl) (Or.inl ⟨rfl, fun w h => run_load_one _ _ _ 35 _ _ rfl (lb) (4) rfl h.1 (by kernel_rfl)⟩) (⟨R0.out.2.1.c4, trivial⟩) ?_
          simp only [Act.put, List.setIfInBounds_toArray, List.set_cons_zero, List.set_cons_succ]
          refine wpAnyT_one (i := 4) (by kernel_rfl) ?_
          refine op_valw (o := ⟨some 122, _, _, _, _, _⟩) (.slice va (64 * i) vc) wr.drew.drew rfl rfl (run_load_one _ _ _ 26 _ _ rfl (lb) (21) rfl (show wr.drew.drew.cell? ⟨lb, 21, none⟩ = _ from R0.out.2.1.c21) (by kernel_rfl)) ?_
          refine ⟨fun _ => ⟨R0.out.2.1.c4, trivial⟩, ?_⟩
          simp only [Act.put, List.setIfInBounds_toArray, List.set_cons_zero, List.set_cons_succ]
          refine wpAnyT_take (i := 10) (oi := ⟨some 128, _, _, _, _, _⟩) (v := .slice va cn vc) rfl (by kernel_rfl) (by kernel_rfl) (by kernel_rfl) (fun _ _ _ h => h) (by kernel_rfl) (Or.inl ⟨rfl, fun w h => run_sltou _ _ _ _ _ va (64 * i) vc cn (own_form R0.out.2.2.2) rfl rfl rfl (by have := HL.out; omega)⟩) (⟨R0.out.2.1.c4, trivial⟩) ?_
          simp only [Act.put, List.setIfInBounds_toArray, List.set_cons_zero, List.set_cons_succ]
          refine wpAnyT_take (i := 11) (oi := ⟨some 129, _, _, _, _, _⟩) (v := .pointer (some ⟨lb, 0, none⟩)) rfl (by kernel_rfl) (by kernel_rfl) (by kernel_rfl) (fun _ _ _ h => h) (by kernel_rfl) (Or.inl ⟨rfl, fun w h => by kernel_rfl⟩) (⟨R0.out.2.1.c4, trivial⟩) ?_
          simp only [Act.put, List.setIfInBounds_toArray, List.set_cons_zero, List.set_cons_succ]
          refine wpAnyT_take (i := 12) (oi := ⟨some 130, _, _, _, _, _⟩) (v := .pointer (some ⟨lb, 21, none⟩)) rfl (by kernel_rfl) (by kernel_rfl) (by kernel_rfl) (fun _ _ _ h => h) (by kernel_rfl) (Or.inl ⟨rfl, fun w h => by kernel_rfl⟩) (⟨R0.out.2.1.c4, trivial⟩) ?_
          simp only [Act.put, List.setIfInBounds_toArray, List.set_cons_zero, List.set_cons_succ]
          refine wpAnyT_one (i := 13) (by kernel_rfl) ?_
          obtain ⟨W7, hW7⟩ : ∃ V, V = wr.drew.drew.setCell ⟨lb, 21, none⟩ (.slice va cn vc) := ⟨_, rfl⟩
          have F7 : Hid (Below w.heap.size w W7 ∧ LS W7 lb b fr rm s cn nt (.slice va cn vc) false ∧ Own W7 (lb + 1) (.slice va cn vc) ((roomL S fr i).take cn)) := Lib.hid (by have l3 := D.out.lts; have e := LB.out; rw [hW7]; exact ⟨(R0.out.1.drew).setCell (p := ⟨lb, 21, none⟩) (Nat.le_of_eq e) _, LS.bytes (w := wr.drew.drew) R0.out.2.1 _, Own.other (own_take (w := wr.drew.drew) R0.out.2.2.2 (by have := HL.out; omega)) ⟨lb, 21, none⟩ _ (fun z => by have q := ((own_take R0.out.2.2.2 (show cn ≤ 64 * i by have := HL.out; omega)).lt lb z).1; omega)⟩)
          refine op_skip (o := ⟨none, _, _, _, _, _⟩) W7 rfl rfl (by rw [hW7]; exact run_store_one _ _ _ 26 _ _ rfl lb 21 rfl _ rfl rfl size26 (by rw [show wr.drew.drew.cell? ⟨lb, 21, none⟩ = _ from R0.out.2.1.c21]; rfl) (R0.out.2.1.1.free 21)) ?_
          refine ⟨fun _ => ⟨F7.out.2.1.c4, trivial⟩, ?_⟩
          simp only [Act.put, List.setIfInBounds_toArray, List.set_cons_zero, List.set_cons_succ]
          clear hW7
          refine wpAnyT_done (by kernel_rfl) ?_ _
          go_upto_region 22 with (fail)
          refine wp_region_lit ?_
          refine wpL_pure (.pointer (some ⟨lb, 0, none⟩)) rfl (by kernel_rfl) ?_
          simp only [Act.put, List.setIfInBounds_toArray, List.set_cons_zero, List.set_cons_succ]
          refine wpL_pure (.pointer (some ⟨lb, 0, none⟩)) rfl (by kernel_rfl) ?_
          simp only [Act.put, List.setIfInBounds_toArray, List.set_cons_zero, List.set_cons_succ]
          refine wpL_pure (.int .i64 0) rfl (by kernel_rfl) ?_
          simp only [Act.put, List.setIfInBounds_toArray, List.set_cons_zero, List.set_cons_succ]
          go_wp2_with fail
          go_ret2
          exact op_post LB.out F7.out.1 F7.out.2.1 F7.out.2.2 (by rw [List.length_take, RLN.out]; have := HL.out; omega) CM.out (by have q := HH.out; have f := F.out; exact open_of D.out (by omega) q (by rw [List.length_take, RLN.out]; have := HL.out; omega) (by have := HL.out; omega) (by have := RL.out; omega))
end Go.Proofs.Yteabblmhcjpboaa.D
