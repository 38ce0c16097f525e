/- Read, Sync, Loose, New. -/
import Derived.Test.YteabblmhcjpboaaDE4
namespace Go.Proofs.Yteabblmhcjpboaa.D
open Go Go.RowKit
set_option maxRecDepth 100000
def RPost (n : Nat) (S : List (List Int)) (go : Bool) (i : Int) (w : World) (e : Ending) (w' : World) : Prop :=
  (¬ (0 ≤ i ∧ i < (n : Int)) ∧ e = .returned (.tuple #[.slice none 0 0, .int .i64 1]) ∧ Below w.heap.size w w') ∨
  ((0 ≤ i ∧ i < (n : Int)) ∧ go = true ∧ e = .returned (.tuple #[.slice none 0 0, .int .i64 5]) ∧ Below w.heap.size w w') ∨
  ((0 ≤ i ∧ i < (n : Int)) ∧ go = false ∧ ∃ (k : Nat) (s : List Int) (v : Value), i = (k : Int) ∧ S[k]? = some s ∧ e = .returned (.tuple #[v, .int .i64 0]) ∧ Own w' w.heap.size v s ∧ Below w.heap.size w w')
def SPost (b gs gm n c : Nat) (L : List (Int × List Int × Nat)) (S : List (List Int)) (fu go : Bool) (fz : Int) (w : World) (e : Ending) (w' : World) : Prop :=
  (mayB fu fz go = false ∧ e = .returned (.int .i64 5) ∧ DS w' b gs gm n L c S fu (mayF fu fz go) true ∧ Fd b gs gm w w') ∨
  (mayB fu fz go = true ∧ e = .returned (.int .i64 0) ∧ DS w' b gs gm n [] c S fu (mayF fu fz go) false ∧ Fd b gs gm w w')
def zs (n : Nat) : List (List Int) := List.replicate n (List.replicate 64 0)
theorem zs_ok (n : Nat) : ∀ s ∈ zs n, SOk s := fun s hs => by
  rw [List.eq_of_mem_replicate hs]
  exact ⟨by simp, fun x hx => by rw [List.eq_of_mem_replicate hx]; omega⟩
theorem made64 (k : Nat) : madeCells #[.int .u8 0, .int .u8 0, .int .u8 0, .int .u8 0, .int .u8 0, .int .u8 0, .int .u8 0, .int .u8 0, .int .u8 0, .int .u8 0, .int .u8 0, .int .u8 0, .int .u8 0, .int .u8 0, .int .u8 0, .int .u8 0, .int .u8 0, .int .u8 0, .int .u8 0, .int .u8 0, .int .u8 0, .int .u8 0, .int .u8 0, .int .u8 0, .int .u8 0, .int .u8 0, .int .u8 0, .int .u8 0, .int .u8 0, .int .u8 0, .int .u8 0, .int .u8 0, .int .u8 0, .int .u8 0, .int .u8 0, .int .u8 0, .int .u8 0, .int .u8 0, .int .u8 0, .int .u8 0, .int .u8 0, .int .u8 0, .int .u8 0, .int .u8 0, .int .u8 0, .int .u8 0, .int .u8 0, .int .u8 0, .int .u8 0, .int .u8 0, .int .u8 0, .int .u8 0, .int .u8 0, .int .u8 0, .int .u8 0, .int .u8 0, .int .u8 0, .int .u8 0, .int .u8 0, .int .u8 0, .int .u8 0, .int .u8 0, .int .u8 0, .int .u8 0] k = (List.replicate k (Value.int .u8 0)).toArray := by
  have e : (#[.int .u8 0, .int .u8 0, .int .u8 0, .int .u8 0, .int .u8 0, .int .u8 0, .int .u8 0, .int .u8 0, .int .u8 0, .int .u8 0, .int .u8 0, .int .u8 0, .int .u8 0, .int .u8 0, .int .u8 0, .int .u8 0, .int .u8 0, .int .u8 0, .int .u8 0, .int .u8 0, .int .u8 0, .int .u8 0, .int .u8 0, .int .u8 0, .int .u8 0, .int .u8 0, .int .u8 0, .int .u8 0, .int .u8 0, .int .u8 0, .int .u8 0, .int .u8 0, .int .u8 0, .int .u8 0, .int .u8 0, .int .u8 0, .int .u8 0, .int .u8 0, .int .u8 0, .int .u8 0, .int .u8 0, .int .u8 0, .int .u8 0, .int .u8 0, .int .u8 0, .int .u8 0, .int .u8 0, .int .u8 0, .int .u8 0, .int .u8 0, .int .u8 0, .int .u8 0, .int .u8 0, .int .u8 0, .int .u8 0, .int .u8 0, .int .u8 0, .int .u8 0, .int .u8 0, .int .u8 0, .int .u8 0, .int .u8 0, .int .u8 0, .int .u8 0] : Array Value) = Array.replicate 64 (.int .u8 0) := rfl
  rw [e]
  unfold madeCells
  apply Array.ext
  · simp
  · intro j h1 h2
    have h3 : j % 64 < 64 := Nat.mod_lt _ (by omega)
    simp [getElem!_pos, h3]
theorem run_mk48 (a : Act) (o : Oper) (w : World) (x y : Operand) (n : Nat) (hn : n ≤ 200) (ho : o.op = .makeSlice 59 x y) (hx : a.eval x = .int .i64 (n : Int)) (hy : a.eval y = .int .i64 (n : Int)) :
    (execOp a.eval o).run Try.prog w = .ok (.value (.slice (some ⟨w.heap.size, 0, none⟩) n n)) (w.alloc (.cells ((zs n).flatten.map (Value.int .u8)).toArray 77)) := by
  have hinfo : (Try.prog.info? 77).map (fun i => (i.zero, i.size, i.bytes)) = some (some (.agg #[.int .u8 0, .int .u8 0, .int .u8 0, .int .u8 0, .int .u8 0, .int .u8 0, .int .u8 0, .int .u8 0, .int .u8 0, .int .u8 0, .int .u8 0, .int .u8 0, .int .u8 0, .int .u8 0, .int .u8 0, .int .u8 0, .int .u8 0, .int .u8 0, .int .u8 0, .int .u8 0, .int .u8 0, .int .u8 0, .int .u8 0, .int .u8 0, .int .u8 0, .int .u8 0, .int .u8 0, .int .u8 0, .int .u8 0, .int .u8 0, .int .u8 0, .int .u8 0, .int .u8 0, .int .u8 0, .int .u8 0, .int .u8 0, .int .u8 0, .int .u8 0, .int .u8 0, .int .u8 0, .int .u8 0, .int .u8 0, .int .u8 0, .int .u8 0, .int .u8 0, .int .u8 0, .int .u8 0, .int .u8 0, .int .u8 0, .int .u8 0, .int .u8 0, .int .u8 0, .int .u8 0, .int .u8 0, .int .u8 0, .int .u8 0, .int .u8 0, .int .u8 0, .int .u8 0, .int .u8 0, .int .u8 0, .int .u8 0, .int .u8 0, .int .u8 0]), 64, 64) := by kernel_rfl
  obtain ⟨i, hi, hzz⟩ := Option.map_eq_some_iff.1 hinfo
  simp only [Prod.mk.injEq] at hzz
  obtain ⟨hz, hs, hb⟩ := hzz
  have r := run_make (P := Try.prog) w 59 77 i _ Try.underlying59 hi hz .i64 .i64 (n : Int) (n : Int) (by omega) (Int.le_refl _) (by rw [hb]; omega) (by omega)
  simp only [Int.toNat_natCast, hs, Value.cells, made64] at r
  have e : (zs n).flatten.map (Value.int .u8) = List.replicate (n * 64) (Value.int .u8 0) := by rw [zs, List.flatten_replicate_replicate, List.map_replicate]
  unfold execOp
  simp only [ho, hx, hy, Sem.run_bind, r, e, Result.andThen_ok, Sem.run_pure]
theorem run_max0 (a : Act) (o : Oper) (w : World) (x : Operand) (n : Nat) (ho : o.op = .call { callee := .builtin .max, args := #[x, .const (.int .i64 0)], argTypes := #[3, 3] }) (ht : o.type = 3) (hx : a.eval x = .int .i64 (n : Int)) :
    (execOp a.eval o).run Try.prog w = .ok (.value (.int .i64 (n : Int))) w := by
  have hc : a.eval (.const (.int .i64 0)) = .int .i64 0 := rfl
  have q : (Builtin.max_ #[3, 3] 3 #[.int .i64 (n : Int), .int .i64 0]).run Try.prog w = .ok (.int .i64 (n : Int)) w := by
    rw [run_max_int2]
    split <;> congr 2 <;> omega
  unfold execOp
  simp only [ho, resolve, invoke, builtin, Sem.run_bind, Sem.run_pure, Result.andThen_ok, List.map_toArray, List.map_cons, List.map_nil, hx, hc, ht, q]
theorem run_minS (a : Act) (o : Oper) (w : World) (x : Operand) (n : Nat) (ho : o.op = .call { callee := .builtin .min, args := #[x, .const (.int .i64 16384)], argTypes := #[3, 3] }) (ht : o.type = 3) (hx : a.eval x = .int .i64 (n : Int)) (hn : n ≤ 16384) :
    (execOp a.eval o).run Try.prog w = .ok (.value (.int .i64 (n : Int))) w := by
  have hc : a.eval (.const (.int .i64 16384)) = .int .i64 16384 := rfl
  have q : (Builtin.min_ #[3, 3] 3 #[.int .i64 (n : Int), .int .i64 16384]).run Try.prog w = .ok (.int .i64 (n : Int)) w := by
    rw [run_min_int2]
    split <;> congr 2 <;> omega
  unfold execOp
  simp only [ho, resolve, invoke, builtin, Sem.run_bind, Sem.run_pure, Result.andThen_ok, List.map_toArray, List.map_cons, List.map_nil, hx, hc, ht, q]
attribute [local irreducible] wpList
set_option maxHeartbeats 2000000 in
set_option maxRecDepth 100000 in
theorem readD {w : World} {b gs gm n c : Nat} {L : List (Int × List Int × Nat)} {S : List (List Int)} {fu go : Bool} {fz : Int} (h : DS w b gs gm n L c S fu fz go) (i : Int) : Calls Try.prog 30 #[.pointer (some ⟨b, 0, none⟩), .int .i64 i] w fun e w' => RPost n S go i w e w' := by
  have HN := Lib.hid h.2.2.2.2.1
  have HD := Lib.hid h
  clear h
  go_enter Try.func30, Try.ntmps30
  go_upto_region 1 with (fail)
  refine wp_region_lit ?_
  by_cases hin : 0 ≤ i ∧ i < (n : Int)
  · have HIN := Lib.hid hin
    clear hin
    refine zP (.pointer (some ⟨b, 0, none⟩)) ?_
    refine zP (.int .i64 i) ?_
    refine wpL_call 38 #[.pointer (some ⟨b, 0, none⟩), .int .i64 i] rfl (by kernel_rfl) ((hasD HD.out i).mono ?_)
    rintro e w9 ⟨he, hx⟩
    subst hx
    refine ⟨.bool true, by rw [he, decide_eq_true HIN.out], ?_⟩
    simp only [Act.put, List.setIfInBounds_toArray, List.set_cons_zero, List.set_cons_succ]
    refine wpL_pure (.bool false) rfl (by kernel_rfl) ?_
    simp only [Act.put, List.setIfInBounds_toArray, List.set_cons_zero, List.set_cons_succ]
    refine wpL_pure (.bool false) rfl (by kernel_rfl) ?_
    simp only [Act.put, List.setIfInBounds_toArray, List.set_cons_zero, List.set_cons_succ]
    unfold wpList
    obtain ⟨k, rfl⟩ : ∃ k : Nat, i = (k : Int) := ⟨i.toNat, by have := HIN.out; omega⟩
    have HK : Hid (k < n) := Lib.hid (by have := HIN.out; omega)
    obtain ⟨s0, hs0, ok0⟩ := HD.out.at HK.out
    have HS := Lib.hid hs0
    clear hs0 ok0
    cases go
    · go_upto_region 3 with (fail)
      refine wp_region_lit ?_
      refine wpL_pure (.pointer (some ⟨b, 0, none⟩)) rfl (by kernel_rfl) ?_
      simp only [Act.put, List.setIfInBounds_toArray, List.set_cons_zero, List.set_cons_succ]
      refine wpL_pure (.pointer (some ⟨b, 0, none⟩)) rfl (by kernel_rfl) ?_
      simp only [Act.put, List.setIfInBounds_toArray, List.set_cons_zero, List.set_cons_succ]
      refine wpL_pure (.pointer (some ⟨b, 4, none⟩)) rfl (by kernel_rfl) ?_
      simp only [Act.put, List.setIfInBounds_toArray, List.set_cons_zero, List.set_cons_succ]
      refine wpL_pure (.bool false) rfl (run_load_one _ _ _ 4 _ _ rfl (b) (4) rfl (by rw [HD.out.cells.2.2.2.2]) (by kernel_rfl)) ?_
      simp only [Act.put, List.setIfInBounds_toArray, List.set_cons_zero, List.set_cons_succ]
      refine wpL_pure (.bool false) rfl (by kernel_rfl) ?_
      simp only [Act.put, List.setIfInBounds_toArray, List.set_cons_zero, List.set_cons_succ]
      go_upto_region 5 with (fail)
      refine wp_region_lit ?_
      refine wpL_pure (.pointer (some ⟨b, 0, none⟩)) rfl (by kernel_rfl) ?_
      simp only [Act.put, List.setIfInBounds_toArray, List.set_cons_zero, List.set_cons_succ]
      refine wpL_pure (.pointer (some ⟨b, 0, none⟩)) rfl (by kernel_rfl) ?_
      simp only [Act.put, List.setIfInBounds_toArray, List.set_cons_zero, List.set_cons_succ]
      refine wpL_pure (.pointer (some ⟨b, 0, none⟩)) rfl (by kernel_rfl) ?_
      simp only [Act.put, List.setIfInBounds_toArray, List.set_cons_zero, List.set_cons_succ]
      refine wpL_pure (.slice (some ⟨gs, 0, none⟩) n n) rfl (run_load_one _ _ _ 59 _ _ rfl (b) (0) rfl (by rw [HD.out.cells.1]) (by kernel_rfl)) ?_
      simp only [Act.put, List.setIfInBounds_toArray, List.set_cons_zero, List.set_cons_succ]
      refine wpL_pure (.int .i64 (k : Int)) rfl (by kernel_rfl) ?_
      simp only [Act.put, List.setIfInBounds_toArray, List.set_cons_zero, List.set_cons_succ]
      refine wpL_pure (.pointer (some ⟨gs, k * 64, none⟩)) rfl (run_idxs _ _ _ _ _ gs n n k rfl rfl rfl HK.out HN.out) ?_
      simp only [Act.put, List.setIfInBounds_toArray, List.set_cons_zero, List.set_cons_succ]
      refine wpL_pure (.slice (some ⟨gs, k * 64, none⟩) 64 64) rfl (run_slarr _ _ _ _ gs (k * 64) rfl rfl) ?_
      simp only [Act.put, List.setIfInBounds_toArray, List.set_cons_zero, List.set_cons_succ]
      refine wpL_call 37 #[.slice (some ⟨gs, k * 64, none⟩) 64 64] rfl (by kernel_rfl) (((clone_any w (some ⟨gs, k * 64, none⟩) 64 64 s0 (HD.out.row HS.out) (by omega) (fun e => by cases e))).mono fun e w1 ⟨v, he, q1, q2, _⟩ => ⟨v, he, ?_⟩)
      simp only [Act.put, List.setIfInBounds_toArray, List.set_cons_zero, List.set_cons_succ]
      have F1 : Hid (Own w1 w.heap.size v s0 ∧ Below w.heap.size w w1) := Lib.hid ⟨q1, q2⟩
      clear q1 q2
      refine wpL_pure (v) rfl (by kernel_rfl) ?_
      simp only [Act.put, List.setIfInBounds_toArray, List.set_cons_zero, List.set_cons_succ]
      refine wpL_pure (.int .i64 0) rfl (by kernel_rfl) ?_
      simp only [Act.put, List.setIfInBounds_toArray, List.set_cons_zero, List.set_cons_succ]
      go_wp2_with fail
      go_ret2
      exact .inr (.inr ⟨HIN.out, rfl, k, s0, v, rfl, HS.out, rfl, F1.out.1, F1.out.2⟩)
    · go_upto_region 3 with (fail)
      refine wp_region_lit ?_
      refine wpL_pure (.pointer (some ⟨b, 0, none⟩)) rfl (by kernel_rfl) ?_
      simp only [Act.put, List.setIfInBounds_toArray, List.set_cons_zero, List.set_cons_succ]
      refine wpL_pure (.pointer (some ⟨b, 0, none⟩)) rfl (by kernel_rfl) ?_
      simp only [Act.put, List.setIfInBounds_toArray, List.set_cons_zero, List.set_cons_succ]
      refine wpL_pure (.pointer (some ⟨b, 4, none⟩)) rfl (by kernel_rfl) ?_
      simp only [Act.put, List.setIfInBounds_toArray, List.set_cons_zero, List.set_cons_succ]
      refine wpL_pure (.bool true) rfl (run_load_one _ _ _ 4 _ _ rfl (b) (4) rfl (by rw [HD.out.cells.2.2.2.2]) (by kernel_rfl)) ?_
      simp only [Act.put, List.setIfInBounds_toArray, List.set_cons_zero, List.set_cons_succ]
      refine wpL_pure (.bool true) rfl (by kernel_rfl) ?_
      simp only [Act.put, List.setIfInBounds_toArray, List.set_cons_zero, List.set_cons_succ]
      go_upto_region 4 with (fail)
      refine wp_region_lit ?_
      refine wpL_pure (.slice none 0 0) rfl (by kernel_rfl) ?_
      simp only [Act.put, List.setIfInBounds_toArray, List.set_cons_zero, List.set_cons_succ]
      refine wpL_pure (.int .i64 5) rfl (by kernel_rfl) ?_
      simp only [Act.put, List.setIfInBounds_toArray, List.set_cons_zero, List.set_cons_succ]
      go_wp2_with fail
      go_ret2
      exact .inr (.inl ⟨HIN.out, rfl, rfl, Below.refl _ _⟩)
  · have HIN := Lib.hid hin
    clear hin
    refine zP (.pointer (some ⟨b, 0, none⟩)) ?_
    refine zP (.int .i64 i) ?_
    refine wpL_call 38 #[.pointer (some ⟨b, 0, none⟩), .int .i64 i] rfl (by kernel_rfl) ((hasD HD.out i).mono ?_)
    rintro e w9 ⟨he, hx⟩
    subst hx
    refine ⟨.bool false, by rw [he, decide_eq_false HIN.out], ?_⟩
    simp only [Act.put, List.setIfInBounds_toArray, List.set_cons_zero, List.set_cons_succ]
    refine wpL_pure (.bool true) rfl (by kernel_rfl) ?_
    simp only [Act.put, List.setIfInBounds_toArray, List.set_cons_zero, List.set_cons_succ]
    refine wpL_pure (.bool true) rfl (by kernel_rfl) ?_
    simp only [Act.put, List.setIfInBounds_toArray, List.set_cons_zero, List.set_cons_succ]
    unfold wpList
    go_upto_region 2 with (fail)
    refine wp_region_lit ?_
    refine wpL_pure (.slice none 0 0) rfl (by kernel_rfl) ?_
    simp only [Act.put, List.setIfInBounds_toArray, List.set_cons_zero, List.set_cons_succ]
    refine wpL_pure (.int .i64 1) rfl (by kernel_rfl) ?_
    simp only [Act.put, List.setIfInBounds_toArray, List.set_cons_zero, List.set_cons_succ]
    go_wp2_with fail
    go_ret2
    exact .inl ⟨HIN.out, rfl, Below.refl _ _⟩
set_option maxHeartbeats 2000000 in
set_option maxRecDepth 100000 in
theorem syncD {w : World} {b gs gm n c : Nat} {L : List (Int × List Int × Nat)} {S : List (List Int)} {fu go : Bool} {fz : Int} (h : DS w b gs gm n L c S fu fz go) : Calls Try.prog 46 #[.pointer (some ⟨b, 0, none⟩)] w fun e w' => SPost b gs gm n c L S fu go fz w e w' := by
  have HD := Lib.hid h
  clear h
  go_enter Try.func46, Try.ntmps46
  go_upto_region 1 with (fail)
  refine wp_region_lit ?_
  refine zP (.pointer (some ⟨b, 0, none⟩)) ?_
  refine wpL_call 39 #[.pointer (some ⟨b, 0, none⟩)] rfl (by kernel_rfl) ((mayD HD.out).mono ?_)
  rintro e w1 ⟨rfl, d1, f1⟩
  have F1 : Hid (DS w1 b gs gm n L c S fu (mayF fu fz go) (!mayB fu fz go) ∧ Fd b gs gm w w1) := Lib.hid ⟨d1, f1⟩
  clear d1 f1
  obtain ⟨mb, hmb⟩ : ∃ q, mayB fu fz go = q := ⟨_, rfl⟩
  obtain ⟨mf, hmf⟩ : ∃ q, mayF fu fz go = q := ⟨_, rfl⟩
  rw [hmb, hmf] at F1
  refine ⟨.bool mb, by rw [hmb], ?_⟩
  simp only [Act.put, List.setIfInBounds_toArray, List.set_cons_zero, List.set_cons_succ]
  have HMB := Lib.hid hmb
  have HMF := Lib.hid hmf
  clear hmb hmf
  cases mb
  · refine wpL_pure (.bool true) rfl (by kernel_rfl) ?_
    simp only [Act.put, List.setIfInBounds_toArray, List.set_cons_zero, List.set_cons_succ]
    unfold wpList
    go_upto_region 2 with (fail)
    refine wp_region_lit ?_
    refine wpL_pure (.int .i64 5) rfl (by kernel_rfl) ?_
    simp only [Act.put, List.setIfInBounds_toArray, List.set_cons_zero, List.set_cons_succ]
    go_wp2_with fail
    go_ret
    exact .inl ⟨HMB.out, rfl, by rw [HMF.out]; exact F1.out.1, F1.out.2⟩
  · refine wpL_pure (.bool false) rfl (by kernel_rfl) ?_
    simp only [Act.put, List.setIfInBounds_toArray, List.set_cons_zero, List.set_cons_succ]
    unfold wpList
    go_upto_region 3 with (fail)
    refine wp_region_lit ?_
    refine wpL_pure (.pointer (some ⟨b, 0, none⟩)) rfl (by kernel_rfl) ?_
    simp only [Act.put, List.setIfInBounds_toArray, List.set_cons_zero, List.set_cons_succ]
    refine wpL_pure (.pointer (some ⟨b, 0, none⟩)) rfl (by kernel_rfl) ?_
    simp only [Act.put, List.setIfInBounds_toArray, List.set_cons_zero, List.set_cons_succ]
    refine wpL_pure (.pointer (some ⟨b, 1, none⟩)) rfl (by kernel_rfl) ?_
    simp only [Act.put, List.setIfInBounds_toArray, List.set_cons_zero, List.set_cons_succ]
    refine wpL_pure (.map (some gm)) rfl (run_load_one _ _ _ 60 _ _ rfl (b) (1) rfl (by rw [F1.out.1.cells.2.1]) (by kernel_rfl)) ?_
    simp only [Act.put, List.setIfInBounds_toArray, List.set_cons_zero, List.set_cons_succ]
    obtain ⟨w2, hw2⟩ : ∃ V, V = setMap w1 gm (.map (ents []) c) := ⟨_, rfl⟩
    refine zV (.tuple #[]) w2 (by rw [hw2]; exact run_clear _ _ _ _ gm c _ rfl rfl F1.out.1.2.2.1) ?_
    have F2 : Hid (DS w2 b gs gm n [] c S fu mf false ∧ Fd b gs gm w w2) := Lib.hid (by rw [hw2]; exact ⟨F1.out.1.upd [] c (LOk.nil _ _), F1.out.2.upd _⟩)
    clear hw2 F1
    go_wp2_with fail
    go_ret
    exact .inr ⟨HMB.out, rfl, by rw [HMF.out]; exact F2.out.1, F2.out.2⟩
theorem looseD {w : World} {b gs gm n c : Nat} {L : List (Int × List Int × Nat)} {S : List (List Int)} {fu go : Bool} {fz : Int} (h : DS w b gs gm n L c S fu fz go) : Calls Try.prog 27 #[.pointer (some ⟨b, 0, none⟩)] w fun e w' => e = .returned (.int .i64 (L.length : Int)) ∧ w = w' := by
  have HD := Lib.hid h
  clear h
  go_enter Try.func27, Try.ntmps27
  go_upto_region 1 with (fail)
  refine wp_region_lit ?_
  refine wpL_pure (.pointer (some ⟨b, 0, none⟩)) rfl (by kernel_rfl) ?_
  simp only [Act.put, List.setIfInBounds_toArray, List.set_cons_zero, List.set_cons_succ]
  refine wpL_pure (.pointer (some ⟨b, 0, none⟩)) rfl (by kernel_rfl) ?_
  simp only [Act.put, List.setIfInBounds_toArray, List.set_cons_zero, List.set_cons_succ]
  refine wpL_pure (.pointer (some ⟨b, 1, none⟩)) rfl (by kernel_rfl) ?_
  simp only [Act.put, List.setIfInBounds_toArray, List.set_cons_zero, List.set_cons_succ]
  refine wpL_pure (.map (some gm)) rfl (run_load_one _ _ _ 60 _ _ rfl (b) (1) rfl (by rw [HD.out.cells.2.1]) (by kernel_rfl)) ?_
  simp only [Act.put, List.setIfInBounds_toArray, List.set_cons_zero, List.set_cons_succ]
  refine wpL_pure (.int .i64 (L.length : Int)) rfl (by rw [← ents_size]; exact run_lenm _ _ _ _ gm (ents L) c rfl rfl rfl HD.out.2.2.1) ?_
  simp only [Act.put, List.setIfInBounds_toArray, List.set_cons_zero, List.set_cons_succ]
  refine wpL_pure (.int .i64 (L.length : Int)) rfl (by kernel_rfl) ?_
  simp only [Act.put, List.setIfInBounds_toArray, List.set_cons_zero, List.set_cons_succ]
  go_wp2_with fail
  go_ret
  exact ⟨rfl, rfl⟩
def NPost (n : Nat) (w : World) (e : Ending) (w' : World) : Prop := ∃ b gs gm, e = .returned (.pointer (some ⟨b, 0, none⟩)) ∧ DS w' b gs gm n [] 0 (zs n) false 0 false ∧ Below w.heap.size w w' ∧ w.heap.size ≤ b ∧ w.heap.size ≤ gs ∧ w.heap.size ≤ gm
set_option maxHeartbeats 2000000 in
set_option maxRecDepth 100000 in
theorem newD (n : Nat) (hn : n ≤ 200) (w : World) : Calls Try.prog 9 #[.int .i64 (n : Int)] w (NPost n w) := by
  have HN := Lib.hid hn
  clear hn
  go_enter Try.func9, Try.ntmps9
  go_upto_region 1 with (fail)
  refine wp_region_lit ?_
  refine wpL_pure (.int .i64 (n : Int)) rfl (by kernel_rfl) ?_
  simp only [Act.put, List.setIfInBounds_toArray, List.set_cons_zero, List.set_cons_succ]
  refine wpL_pure (.int .i64 (n : Int)) rfl (run_max0 _ _ _ _ n rfl rfl rfl) ?_
  simp only [Act.put, List.setIfInBounds_toArray, List.set_cons_zero, List.set_cons_succ]
  refine wpL_pure (.int .i64 (n : Int)) rfl (run_minS _ _ _ _ n rfl rfl rfl (by have := HN.out; omega)) ?_
  simp only [Act.put, List.setIfInBounds_toArray, List.set_cons_zero, List.set_cons_succ]
  obtain ⟨W1, hW1⟩ : ∃ V, V = w.alloc (.cells ((zs n).flatten.map (Value.int .u8)).toArray 77) := ⟨_, rfl⟩
  refine zV (.slice (some ⟨w.heap.size, 0, none⟩) n n) W1 (by rw [hW1]; exact run_mk48 _ _ _ _ _ n HN.out rfl rfl rfl) ?_
  have F1 : Hid (Blk W1 w.heap.size 77 ((zs n).flatten.map (Value.int .u8)).toArray ∧ Below w.heap.size w W1 ∧ w.heap.size < W1.heap.size) := Lib.hid (by rw [hW1]; exact ⟨Blk.new _ _ _, (Below.refl _ _).alloc (Nat.le_refl _) _, by simp⟩)
  clear hW1
  obtain ⟨W2, hW2⟩ : ∃ V, V = W1.alloc (.map #[] 0) := ⟨_, rfl⟩
  refine zV (.map (some W1.heap.size)) W2 (by rw [hW2]; kernel_rfl) ?_
  have B2 : Below W1.heap.size W1 W2 := by rw [hW2]; exact (Below.refl _ _).alloc (Nat.le_refl _) _
  have F2 : Hid (Blk W2 w.heap.size 77 ((zs n).flatten.map (Value.int .u8)).toArray ∧ Below w.heap.size w W2 ∧ W2.heap[W1.heap.size]? = some (.map #[] 0) ∧ w.heap.size ≤ W1.heap.size ∧ W1.heap.size < W2.heap.size) := Lib.hid ⟨F1.out.1.below B2, F1.out.2.1.trans (B2.mono F1.out.2.1.size), by rw [hW2]; exact heap_alloc_new _ _, F1.out.2.1.size, by rw [hW2]; simp⟩
  clear hW2 B2 F1
  refine wpL_pure (.agg #[.slice (some ⟨w.heap.size, 0, none⟩) n n, .map (some W1.heap.size), .bool false, .int .i64 0, .bool false]) rfl (by kernel_rfl) ?_
  simp only [Act.put, List.setIfInBounds_toArray, List.set_cons_zero, List.set_cons_succ]
  obtain ⟨W3, hW3⟩ : ∃ V, V = W2.alloc (.cells #[.slice (some ⟨w.heap.size, 0, none⟩) n n, .map (some W1.heap.size), .bool false, .int .i64 0, .bool false] 62) := ⟨_, rfl⟩
  refine zV (.pointer (some ⟨W2.heap.size, 0, none⟩)) W3 (by rw [hW3]; kernel_rfl) ?_
  have B3 : Below W2.heap.size W2 W3 := by rw [hW3]; exact (Below.refl _ _).alloc (Nat.le_refl _) _
  have F3 : Hid (Blk W3 W2.heap.size 62 #[.slice (some ⟨w.heap.size, 0, none⟩) n n, .map (some W1.heap.size), .bool false, .int .i64 0, .bool false] ∧ Blk W3 w.heap.size 77 ((zs n).flatten.map (Value.int .u8)).toArray ∧ Below w.heap.size w W3 ∧ W3.heap[W1.heap.size]? = some (.map #[] 0) ∧ W1.heap.size < W3.heap.size ∧ w.heap.size ≤ W1.heap.size ∧ w.heap.size ≤ W2.heap.size) := Lib.hid ⟨by rw [hW3]; exact Blk.new _ _ _, F2.out.1.below B3, F2.out.2.1.trans (B3.mono F2.out.2.1.size), (B3.block _ F2.out.2.2.2.2).trans F2.out.2.2.1, Nat.lt_of_lt_of_le F2.out.2.2.2.2 B3.size, F2.out.2.2.2.1, F2.out.2.1.size⟩
  clear hW3 B3 F2
  refine wpL_pure (.pointer (some ⟨W2.heap.size, 0, none⟩)) rfl (by kernel_rfl) ?_
  simp only [Act.put, List.setIfInBounds_toArray, List.set_cons_zero, List.set_cons_succ]
  go_wp2_with fail
  go_ret
  exact ⟨W2.heap.size, w.heap.size, W1.heap.size, rfl, ⟨F3.out.1, F3.out.2.1, F3.out.2.2.2.1, by simp [zs], by have := HN.out; omega, fun s hs => zs_ok n s hs, F3.out.2.2.2.2.1, LOk.nil _ _, (fun e => (by cases e)), by omega⟩, F3.out.2.2.1, F3.out.2.2.2.2.2.2, Nat.le_refl _, F3.out.2.2.2.2.2.1⟩
end Go.Proofs.Yteabblmhcjpboaa.D
