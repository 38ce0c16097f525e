import Derived.Test.YtoeojgdolanggaaN7
namespace Go.Proofs.Ytoeojgdolanggaa
open Go Go.RowKit
theorem run_remu8 (a : Act) (o : Oper) (w : World) (x : Operand) (n : Int) (m : Nat) (ho : o.op = .binOp .rem 5 x (.const (.int .u8 150)) 5) (hx : a.eval x = .int .u8 n) (hm : n % 150 = (m : Int) ∧ 0 ≤ n ∧ n ≤ 255) : (execOp a.eval o).run Try.prog w = .ok (.value (.int .u8 (m : Int))) w := by
  have hc : a.eval (.const (.int .u8 150)) = .int .u8 150 := rfl
  obtain ⟨h1, h2, h3⟩ := hm
  have e : n.tmod 150 = (m : Int) := by rw [Int.tmod_eq_emod_of_nonneg h2, h1]
  unfold execOp
  simp only [ho, hx, hc]
  go_simp
theorem first_is {ls : List Ltr} {l : Ltr} {k j : Nat} (h : ls.map Ltr.f = ((List.range k).drop j).map (fun (j : Nat) => (j : Int))) (hj : j < k) (hl : ls[plc 0 ls.length]? = some l) : l.f = (j : Int) := by
  have e : plc 0 ls.length = 0 := by simp [plc]
  rw [e] at hl
  have h1 : (ls.map Ltr.f)[0]? = some l.f := by rw [List.getElem?_map, hl]; rfl
  rw [h, List.getElem?_map, List.getElem?_drop, List.getElem?_range (by omega)] at h1
  simpa using h1.symm
theorem rest_is {ls : List Ltr} {k j : Nat} (h : ls.map Ltr.f = ((List.range k).drop j).map (fun (j : Nat) => (j : Int))) : (ls.eraseIdx (plc 0 ls.length)).map Ltr.f = ((List.range k).drop (j + 1)).map (fun (j : Nat) => (j : Int)) := by
  have e : plc 0 ls.length = 0 := by simp [plc]
  rw [e]
  have h2 : (ls.eraseIdx 0).map Ltr.f = (ls.map Ltr.f).drop 1 := by cases ls <;> simp
  rw [h2, h, ← List.map_drop, List.drop_drop]
set_option maxHeartbeats 2000000 in
theorem walkNetOrder (x : Int) (wf : (Lit.int .u8 x).wf = true) (w : World) : Calls Try.prog 8 #[.int .u8 x] w fun e w' => e = .returned (.bool true) ∧ Below w.heap.size w w' := by
  have bx := bounds_u8 wf
  obtain ⟨m, hm⟩ : ∃ m : Nat, x % 150 = (m : Int) := ⟨(x % 150).toNat, by omega⟩
  have HX : Hid ((x % 150 = (m : Int) ∧ 0 ≤ x ∧ x ≤ 255) ∧ m < 150) := Lib.hid ⟨⟨hm, bx⟩, by omega⟩
  clear wf bx hm
  go_enter Try.func8, Try.ntmps8
  go_upto_region 1 with (fail)
  refine wp_region_lit ?_
  refine wpL_call 18 #[] rfl (by kernel_rfl) ((new_any w).mono fun e w1 ⟨he, hs, hb⟩ => ⟨.pointer (some ⟨w.heap.size, 0, none⟩), he, ?_⟩)
  simp only [Act.put, List.setIfInBounds_toArray, List.set_cons_zero, List.set_cons_succ]
  have A1 := Lib.hid (And.intro hs hb)
  clear hs hb
  generalize hg : w.heap.size = b at *
  have HG := Lib.hid hg
  clear hg
  refine wpL_pure (.pointer (some ⟨b, 0, none⟩)) rfl (by kernel_rfl) ?_
  simp only [Act.put, List.setIfInBounds_toArray, List.set_cons_zero, List.set_cons_succ]
  go_upto_region 2 with (fail)
  refine wp_region_lit ?_
  refine wpL_pure (.int .u8 x) rfl (by kernel_rfl) ?_
  simp only [Act.put, List.setIfInBounds_toArray, List.set_cons_zero, List.set_cons_succ]
  refine wpL_pure (.int .u8 ((m : Nat) : Int)) rfl (run_remu8 _ _ _ _ x m rfl rfl HX.out.1) ?_
  simp only [Act.put, List.setIfInBounds_toArray, List.set_cons_zero, List.set_cons_succ]
  refine wpL_pure (.int .i64 (m : Int)) rfl (run_convi Try.underlying5 Try.underlying3 rfl rfl _ (wrap_in _ (by omega) (by have := HX.out.2; omega))) ?_
  simp only [Act.put, List.setIfInBounds_toArray, List.set_cons_zero, List.set_cons_succ]
  refine wpL_pure (.int .i64 (m : Int)) rfl (by kernel_rfl) ?_
  simp only [Act.put, List.setIfInBounds_toArray, List.set_cons_zero, List.set_cons_succ]
  go_upto_region 3 with (fail)
  go_wp2_with fail
  go_loopw [5] (fun s5 wr => ∃ k : Nat, s5 = .int .i64 (k : Int) ∧ Hid (k ≤ m ∧ Below b w wr ∧ ∃ s ls, NetSt wr b s ls ∧ ls.map Ltr.f = (List.range k).map (fun (j : Nat) => (j : Int)))) (fun s5 _ => m - (intOf s5).toNat)
  case atStart => exact ⟨0, rfl, Lib.hid ⟨by omega, A1.out.2, _, _, A1.out.1, rfl⟩⟩
  case round =>
    obtain ⟨k, rfl, RI⟩ := hrel
    clear A1
    by_cases hlt : k < m
    · have HK := Lib.hid hlt
      obtain ⟨hB, s, ls, hS, hl⟩ := RI.out.2
      have hll : ls.length = k := by have := congrArg List.length hl; simpa using this
      have SD := Lib.hid (send_any wr b (k : Int) 0 none 0 0 [] s ls hS (by have := HX.out.2; omega) (Row.nil _ _) (by omega) (fun _ => rfl))
      have LB := Lib.hid (And.intro hB (And.intro hS.lt hl))
      clear RI hlt hB hS hl hll
      go_upto_region 4 with (fail)
      refine wp_region_lit ?_
      refine wpL_pure (.int .i64 (k : Int)) rfl (by kernel_rfl) ?_
      simp only [Act.put, List.setIfInBounds_toArray, List.set_cons_zero, List.set_cons_succ]
      refine wpL_pure (.int .i64 (m : Int)) rfl (by kernel_rfl) ?_
      simp only [Act.put, List.setIfInBounds_toArray, List.set_cons_zero, List.set_cons_succ]
      refine wpL_pure (.bool true) rfl (run_lti Try.underlying3 rfl rfl rfl (by have := HK.out; rw [decide_eq_true_eq]; omega)) ?_
      simp only [Act.put, List.setIfInBounds_toArray, List.set_cons_zero, List.set_cons_succ]
      go_upto_region 6 with (fail)
      refine wp_region_lit ?_
      refine wpL_pure (.pointer (some ⟨b, 0, none⟩)) rfl (by kernel_rfl) ?_
      simp only [Act.put, List.setIfInBounds_toArray, List.set_cons_zero, List.set_cons_succ]
      refine wpL_pure (.int .i64 (k : Int)) rfl (by kernel_rfl) ?_
      simp only [Act.put, List.setIfInBounds_toArray, List.set_cons_zero, List.set_cons_succ]
      refine wpL_pure (.agg #[.int .i64 (k : Int), .int .i64 0, .slice none 0 0]) rfl (by kernel_rfl) ?_
      simp only [Act.put, List.setIfInBounds_toArray, List.set_cons_zero, List.set_cons_succ]
      refine wpL_call 20 #[.pointer (some ⟨b, 0, none⟩), .agg #[.int .i64 (k : Int), .int .i64 0, .slice none 0 0]] rfl (by kernel_rfl) ((SD.out).mono fun e wn ⟨he, s', v', q1, q2⟩ => ⟨.bool true, he, ?_⟩)
      simp only [Act.put, List.setIfInBounds_toArray, List.set_cons_zero, List.set_cons_succ]
      have NX : Hid (Below b w wn ∧ ∃ s ls, NetSt wn b s ls ∧ ls.map Ltr.f = (List.range (k + 1)).map (fun (j : Nat) => (j : Int))) := Lib.hid ⟨LB.out.1.trans q2, _, _, q1, by rw [List.map_append, LB.out.2.2, List.range_succ, List.map_append]; rfl⟩
      clear q1 q2 SD
      refine wpL_pure (.bool false) rfl (by kernel_rfl) ?_
      simp only [Act.put, List.setIfInBounds_toArray, List.set_cons_zero, List.set_cons_succ]
      go_upto_region 5 with (fail)
      refine wp_region_lit ?_
      refine wpL_pure (.int .i64 (k : Int)) rfl (by kernel_rfl) ?_
      simp only [Act.put, List.setIfInBounds_toArray, List.set_cons_zero, List.set_cons_succ]
      refine wpL_pure (.int .i64 ((k + 1 : Nat) : Int)) rfl (run_addi Try.underlying3 rfl rfl rfl _ (by have := HK.out; have := HX.out.2; rw [wrap_in _ (by omega) (by omega)]; omega)) ?_
      simp only [Act.put, List.setIfInBounds_toArray, List.set_cons_zero, List.set_cons_succ]
      refine wpL_pure (.int .i64 ((k + 1 : Nat) : Int)) rfl (by kernel_rfl) ?_
      simp only [Act.put, List.setIfInBounds_toArray, List.set_cons_zero, List.set_cons_succ]
      go_roundw
      case rel => first | exact ⟨k + 1, rfl, Lib.hid ⟨by have := HK.out; omega, NX.out⟩⟩ | ((repeat apply Exists.intro); exact ⟨⟨k + 1, rfl, Lib.hid ⟨by have := HK.out; omega, NX.out⟩⟩, rfl⟩)
      case measure => simp [intOf]; have := HK.out; omega
    · have hk : k = m := by have := RI.out.1; omega
      have HKM := Lib.hid hlt
      subst hk
      have A3 := Lib.hid RI.out.2
      clear RI hlt
      go_upto_region 4 with (fail)
      refine wp_region_lit ?_
      refine wpL_pure (.int .i64 (k : Int)) rfl (by kernel_rfl) ?_
      simp only [Act.put, List.setIfInBounds_toArray, List.set_cons_zero, List.set_cons_succ]
      refine wpL_pure (.int .i64 (k : Int)) rfl (by kernel_rfl) ?_
      simp only [Act.put, List.setIfInBounds_toArray, List.set_cons_zero, List.set_cons_succ]
      refine wpL_pure (.bool false) rfl (run_lti Try.underlying3 rfl rfl rfl (by rw [decide_eq_false_iff_not]; omega)) ?_
      simp only [Act.put, List.setIfInBounds_toArray, List.set_cons_zero, List.set_cons_succ]
      go_upto_region 8 with (fail)
      go_wp2_with fail
      go_loopw [6] (fun s6 wr => ∃ j : Nat, s6 = .int .i64 (j : Int) ∧ Hid (j ≤ k ∧ Below b w wr ∧ ∃ s ls, NetSt wr b s ls ∧ ls.map Ltr.f = ((List.range k).drop j).map (fun (j : Nat) => (j : Int)))) (fun s6 _ => k - (intOf s6).toNat)
      case atStart => exact ⟨0, rfl, Lib.hid ⟨by omega, A3.out⟩⟩
      case round =>
        obtain ⟨j, rfl, RI⟩ := hrel
        clear A3
        by_cases hlt : j < k
        · have HK := Lib.hid hlt
          obtain ⟨hB, s, ls, hS, hl⟩ := RI.out.2
          have hll : ls.length = k - j := by have := congrArg List.length hl; simpa using this
          have TK := Lib.hid (take_any wr b 0 s ls hS (by omega) (by have := HX.out.2; omega))
          have LB := Lib.hid (And.intro hB (And.intro hS.lt hl))
          clear RI hlt hB hS hl hll
          go_upto_region 9 with (fail)
          refine wp_region_lit ?_
          refine wpL_pure (.int .i64 (j : Int)) rfl (by kernel_rfl) ?_
          simp only [Act.put, List.setIfInBounds_toArray, List.set_cons_zero, List.set_cons_succ]
          refine wpL_pure (.int .i64 (k : Int)) rfl (by kernel_rfl) ?_
          simp only [Act.put, List.setIfInBounds_toArray, List.set_cons_zero, List.set_cons_succ]
          refine wpL_pure (.bool true) rfl (run_lti Try.underlying3 rfl rfl rfl (by have := HK.out; rw [decide_eq_true_eq]; omega)) ?_
          simp only [Act.put, List.setIfInBounds_toArray, List.set_cons_zero, List.set_cons_succ]
          go_upto_region 11 with (fail)
          refine wp_region_lit ?_
          refine wpL_pure (.pointer (some ⟨b, 0, none⟩)) rfl (by kernel_rfl) ?_
          simp only [Act.put, List.setIfInBounds_toArray, List.set_cons_zero, List.set_cons_succ]
          refine wpL_call 22 #[.pointer (some ⟨b, 0, none⟩), .int .i64 0] rfl (by kernel_rfl) ((TK.out).mono fun e wd ⟨l, u, s2, hl, he, hu, q1, q2⟩ => ⟨.tuple #[.agg #[.int .i64 l.f, .int .i64 l.t, u], .bool true], he, ?_⟩)
          simp only [Act.put, List.setIfInBounds_toArray, List.set_cons_zero, List.set_cons_succ]
          have ONEU : u.oneCell' = true := by obtain ⟨a, c, e⟩ := hu.slice; rw [e]; rfl
          have HF := Lib.hid (first_is LB.out.2.2 HK.out hl)
          have A6 : Hid (Below b w wd ∧ b < wd.heap.size ∧ ∃ s ls, NetSt wd b s ls ∧ ls.map Ltr.f = ((List.range k).drop (j + 1)).map (fun (j : Nat) => (j : Int))) := Lib.hid ⟨LB.out.1.trans (gb_below q2 (Nat.le_refl _) (Nat.le_of_lt LB.out.2.1)), Nat.lt_of_lt_of_le LB.out.2.1 q2.size, _, _, q1, rest_is LB.out.2.2⟩
          clear hl hu q1 q2 TK
          refine wpL_pure (.tuple #[.agg #[.int .i64 l.f, .int .i64 l.t, u], .bool true]) rfl (by kernel_rfl) ?_
          simp only [Act.put, List.setIfInBounds_toArray, List.set_cons_zero, List.set_cons_succ]
          refine wpL_pure (.agg #[.int .i64 l.f, .int .i64 l.t, u]) rfl (by kernel_rfl) ?_
          simp only [Act.put, List.setIfInBounds_toArray, List.set_cons_zero, List.set_cons_succ]
          refine wpL_pure (.bool true) rfl (by kernel_rfl) ?_
          simp only [Act.put, List.setIfInBounds_toArray, List.set_cons_zero, List.set_cons_succ]
          have BX := Lib.hid (box_frame wd l.f l.t u)
          obtain ⟨we, hwe⟩ : ∃ V, V = (wd.alloc (.cells #[.int .i64 0, .int .i64 0, .slice none 0 0] 43)).setRow wd.heap.size #[.int .i64 l.f, .int .i64 l.t, u] := ⟨_, rfl⟩
          rw [← hwe] at BX
          refine wpL_value (.pointer (some ⟨wd.heap.size, 0, none⟩)) (wd.alloc (.cells #[.int .i64 0, .int .i64 0, .slice none 0 0] 43)) rfl (by kernel_rfl) ?_
          simp only [Act.put, List.setIfInBounds_toArray, List.set_cons_zero, List.set_cons_succ]
          refine wpList_store_row rfl 43 _ _ rfl (wd.heap.size) (#[.int .i64 l.f, .int .i64 l.t, u]) rfl rfl _ _ (Blk.new wd 43 _) (by kernel_rfl) rfl (all3 _ _ _ ONEU) ?_
          simp only [Act.put, List.setIfInBounds_toArray, List.set_cons_zero, List.set_cons_succ]
          rw [← hwe]
          have A7 : Hid (Blk we wd.heap.size 43 #[.int .i64 l.f, .int .i64 l.t, u]) := Lib.hid BX.out.1
          have NX : Hid (Below b w we ∧ ∃ s ls, NetSt we b s ls ∧ ls.map Ltr.f = ((List.range k).drop (j + 1)).map (fun (j : Nat) => (j : Int))) := Lib.hid ⟨A6.out.1.trans (BX.out.2.mono (Nat.le_of_lt A6.out.2.1)), by obtain ⟨s, ls, h1, h2⟩ := A6.out.2.2; exact ⟨s, ls, h1.below BX.out.2, h2⟩⟩
          clear BX A6 hwe
          generalize wd.heap.size = g7 at A7 ⊢
          refine wpL_pure (.bool true) rfl (by kernel_rfl) ?_
          simp only [Act.put, List.setIfInBounds_toArray, List.set_cons_zero, List.set_cons_succ]
          go_upto_region 12 with (fail)
          refine wp_region_lit ?_
          refine wpL_pure (.bool true) rfl (by kernel_rfl) ?_
          simp only [Act.put, List.setIfInBounds_toArray, List.set_cons_zero, List.set_cons_succ]
          refine wpL_pure (.bool false) rfl (by kernel_rfl) ?_
          simp only [Act.put, List.setIfInBounds_toArray, List.set_cons_zero, List.set_cons_succ]
          refine wpL_pure (.bool false) rfl (by kernel_rfl) ?_
          simp only [Act.put, List.setIfInBounds_toArray, List.set_cons_zero, List.set_cons_succ]
          refine wpL_pure (.pointer (some ⟨g7, 0, none⟩)) rfl (by kernel_rfl) ?_
          simp only [Act.put, List.setIfInBounds_toArray, List.set_cons_zero, List.set_cons_succ]
          refine wpL_pure (.int .i64 l.f) rfl (run_load_one _ _ _ 3 _ _ rfl g7 0 rfl (by rw [A7.out.cell]; rfl) (by kernel_rfl)) ?_
          simp only [Act.put, List.setIfInBounds_toArray, List.set_cons_zero, List.set_cons_succ]
          refine wpL_pure (.int .i64 (j : Int)) rfl (by kernel_rfl) ?_
          simp only [Act.put, List.setIfInBounds_toArray, List.set_cons_zero, List.set_cons_succ]
          refine wpL_pure (.bool false) rfl (run_nei Try.underlying3 rfl rfl rfl (by rw [HF.out]; simp)) ?_
          simp only [Act.put, List.setIfInBounds_toArray, List.set_cons_zero, List.set_cons_succ]
          refine wpL_pure (.bool false) rfl (by kernel_rfl) ?_
          simp only [Act.put, List.setIfInBounds_toArray, List.set_cons_zero, List.set_cons_succ]
          go_upto_region 10 with (fail)
          refine wp_region_lit ?_
          refine wpL_pure (.int .i64 (j : Int)) rfl (by kernel_rfl) ?_
          simp only [Act.put, List.setIfInBounds_toArray, List.set_cons_zero, List.set_cons_succ]
          refine wpL_pure (.int .i64 ((j + 1 : Nat) : Int)) rfl (run_addi Try.underlying3 rfl rfl rfl _ (by have := HK.out; have := HX.out.2; rw [wrap_in _ (by omega) (by omega)]; omega)) ?_
          simp only [Act.put, List.setIfInBounds_toArray, List.set_cons_zero, List.set_cons_succ]
          refine wpL_pure (.int .i64 ((j + 1 : Nat) : Int)) rfl (by kernel_rfl) ?_
          simp only [Act.put, List.setIfInBounds_toArray, List.set_cons_zero, List.set_cons_succ]
          go_roundw
          case rel => first | exact ⟨j + 1, rfl, Lib.hid ⟨by have := HK.out; omega, NX.out⟩⟩ | ((repeat apply Exists.intro); exact ⟨⟨j + 1, rfl, Lib.hid ⟨by have := HK.out; omega, NX.out⟩⟩, rfl⟩)
          case measure => simp [intOf]; have := HK.out; omega
        · have hk : j = k := by have := RI.out.1; omega
          subst hk
          obtain ⟨hB, s, ls, hS, hl⟩ := RI.out.2
          obtain rfl : ls = [] := by have := congrArg List.length hl; simpa using this
          have A4 := Lib.hid (And.intro hS hB)
          clear RI hlt hB hS hl
          go_upto_region 9 with (fail)
          refine wp_region_lit ?_
          refine wpL_pure (.int .i64 (j : Int)) rfl (by kernel_rfl) ?_
          simp only [Act.put, List.setIfInBounds_toArray, List.set_cons_zero, List.set_cons_succ]
          refine wpL_pure (.int .i64 (j : Int)) rfl (by kernel_rfl) ?_
          simp only [Act.put, List.setIfInBounds_toArray, List.set_cons_zero, List.set_cons_succ]
          refine wpL_pure (.bool false) rfl (run_lti Try.underlying3 rfl rfl rfl (by rw [decide_eq_false_iff_not]; omega)) ?_
          simp only [Act.put, List.setIfInBounds_toArray, List.set_cons_zero, List.set_cons_succ]
          go_upto_region 14 with (fail)
          refine wp_region_lit ?_
          refine wpL_pure (.pointer (some ⟨b, 0, none⟩)) rfl (by kernel_rfl) ?_
          simp only [Act.put, List.setIfInBounds_toArray, List.set_cons_zero, List.set_cons_succ]
          refine wpL_call 22 #[.pointer (some ⟨b, 0, none⟩), .int .i64 0] rfl (by kernel_rfl) ((take_none wr b 0 s A4.out.1).mono fun e wd ⟨he, q1, q2⟩ => ⟨.tuple #[.agg #[.int .i64 0, .int .i64 0, .slice none 0 0], .bool false], he, ?_⟩)
          simp only [Act.put, List.setIfInBounds_toArray, List.set_cons_zero, List.set_cons_succ]
          have A5 : Hid (NetSt wd b s [] ∧ Below b w wd) := Lib.hid ⟨q1, A4.out.2.trans (q2.mono (Nat.le_of_lt A4.out.1.lt))⟩
          clear q1 q2 A4
          refine wpL_pure (.tuple #[.agg #[.int .i64 0, .int .i64 0, .slice none 0 0], .bool false]) rfl (by kernel_rfl) ?_
          simp only [Act.put, List.setIfInBounds_toArray, List.set_cons_zero, List.set_cons_succ]
          refine wpL_pure (.agg #[.int .i64 0, .int .i64 0, .slice none 0 0]) rfl (by kernel_rfl) ?_
          simp only [Act.put, List.setIfInBounds_toArray, List.set_cons_zero, List.set_cons_succ]
          refine wpL_pure (.bool false) rfl (by kernel_rfl) ?_
          simp only [Act.put, List.setIfInBounds_toArray, List.set_cons_zero, List.set_cons_succ]
          have BX := Lib.hid (box_frame wd 0 0 (.slice none 0 0))
          obtain ⟨we, hwe⟩ : ∃ V, V = (wd.alloc (.cells #[.int .i64 0, .int .i64 0, .slice none 0 0] 43)).setRow wd.heap.size #[.int .i64 0, .int .i64 0, .slice none 0 0] := ⟨_, rfl⟩
          rw [← hwe] at BX
          refine wpL_value (.pointer (some ⟨wd.heap.size, 0, none⟩)) (wd.alloc (.cells #[.int .i64 0, .int .i64 0, .slice none 0 0] 43)) rfl (by kernel_rfl) ?_
          simp only [Act.put, List.setIfInBounds_toArray, List.set_cons_zero, List.set_cons_succ]
          refine wpList_store_row rfl 43 _ _ rfl (wd.heap.size) (#[.int .i64 0, .int .i64 0, .slice none 0 0]) rfl rfl _ _ (Blk.new wd 43 _) (by kernel_rfl) rfl (by kernel_rfl) ?_
          simp only [Act.put, List.setIfInBounds_toArray, List.set_cons_zero, List.set_cons_succ]
          rw [← hwe]
          have A7 : Hid (NetSt we b s [] ∧ Below b w we) := Lib.hid ⟨A5.out.1.below BX.out.2, A5.out.2.trans (BX.out.2.mono (Nat.le_of_lt A5.out.1.lt))⟩
          clear BX A5 hwe
          generalize wd.heap.size = g9
          refine wpL_pure (.bool false) rfl (by kernel_rfl) ?_
          simp only [Act.put, List.setIfInBounds_toArray, List.set_cons_zero, List.set_cons_succ]
          go_upto_region 15 with (fail)
          refine wp_region_lit ?_
          refine wpL_call 16 #[] rfl (by kernel_rfl) ((awakeN we).mono fun e wf ⟨he, hb⟩ => ⟨.bool true, he, ?_⟩)
          simp only [Act.put, List.setIfInBounds_toArray, List.set_cons_zero, List.set_cons_succ]
          have A8 : Hid (NetSt wf b s [] ∧ Below b w wf) := Lib.hid ⟨A7.out.1.below hb, A7.out.2.trans (hb.mono (Nat.le_of_lt A7.out.1.lt))⟩
          clear hb A7
          refine wpL_pure (.bool true) rfl (by kernel_rfl) ?_
          simp only [Act.put, List.setIfInBounds_toArray, List.set_cons_zero, List.set_cons_succ]
          refine wpL_pure (.bool false) rfl (by kernel_rfl) ?_
          simp only [Act.put, List.setIfInBounds_toArray, List.set_cons_zero, List.set_cons_succ]
          refine wpL_pure (.bool true) rfl (by kernel_rfl) ?_
          simp only [Act.put, List.setIfInBounds_toArray, List.set_cons_zero, List.set_cons_succ]
          refine wpL_pure (.bool true) rfl (by kernel_rfl) ?_
          simp only [Act.put, List.setIfInBounds_toArray, List.set_cons_zero, List.set_cons_succ]
          refine wpL_pure (.bool true) rfl (by kernel_rfl) ?_
          simp only [Act.put, List.setIfInBounds_toArray, List.set_cons_zero, List.set_cons_succ]
          refine wpL_pure (.pointer (some ⟨b, 0, none⟩)) rfl (by kernel_rfl) ?_
          simp only [Act.put, List.setIfInBounds_toArray, List.set_cons_zero, List.set_cons_succ]
          refine wpL_call 28 #[.pointer (some ⟨b, 0, none⟩)] rfl (by kernel_rfl) ((count_any wf b _ _ A8.out.1).mono fun e wh ⟨he, hx⟩ => ⟨.int .i64 0, he, ?_⟩)
          simp only [Act.put, List.setIfInBounds_toArray, List.set_cons_zero, List.set_cons_succ]
          subst hx
          refine wpL_pure (.bool true) rfl (by kernel_rfl) ?_
          simp only [Act.put, List.setIfInBounds_toArray, List.set_cons_zero, List.set_cons_succ]
          refine wpL_pure (.bool true) rfl (by kernel_rfl) ?_
          simp only [Act.put, List.setIfInBounds_toArray, List.set_cons_zero, List.set_cons_succ]
          go_wp2_with fail
          go_ret
          exact ⟨rfl, by rw [HG.out]; exact A8.out.2⟩
end Go.Proofs.Ytoeojgdolanggaa
