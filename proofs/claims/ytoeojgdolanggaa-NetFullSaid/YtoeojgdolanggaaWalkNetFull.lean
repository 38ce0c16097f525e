import Derived.Test.YtoeojgdolanggaaN7
namespace Go.Proofs.Ytoeojgdolanggaa
open Go Go.RowKit
set_option maxHeartbeats 2000000 in
theorem walkNetFull (i : Int) (_wf : (Lit.int .i64 i).wf = true) (w : World) : Calls Try.prog 9 #[.int .i64 i] w fun e w' => e = .returned (.bool true) ∧ Below w.heap.size w w' := by
  clear _wf
  go_enter Try.func9, Try.ntmps9
  go_upto_region 1 with (fail)
  refine wp_region_lit ?_
  refine wpL_call 18 #[] rfl (by kernel_rfl) ((new_any w).mono fun e w1 ⟨he, hs, hb⟩ => ⟨.pointer (some ⟨w.heap.size, 0, none⟩), he, ?_⟩)
  simp only [Act.put, List.setIfInBounds_toArray, List.set_cons_zero, List.set_cons_succ]
  have A1 := Lib.hid (And.intro hs hb)
  clear hs hb
  generalize hg : w.heap.size = b at *
  have HG := Lib.hid hg
  clear hg
  refine wpL_pure (.pointer (some ⟨b, 0, none⟩)) rfl (by kernel_rfl) ?_
  simp only [Act.put, List.setIfInBounds_toArray, List.set_cons_zero, List.set_cons_succ]
  go_upto_region 2 with (fail)
  refine wp_region_lit ?_
  refine wpL_call 16 #[] rfl (by kernel_rfl) ((awakeN w1).mono fun e w2 ⟨he, hb⟩ => ⟨.bool true, he, ?_⟩)
  simp only [Act.put, List.setIfInBounds_toArray, List.set_cons_zero, List.set_cons_succ]
  have A2 : Hid (NetSt w2 b (.slice none 0 0) [] ∧ Below b w w2) := Lib.hid ⟨A1.out.1.below hb, A1.out.2.trans (hb.mono (Nat.le_of_lt A1.out.1.lt))⟩
  clear hb A1
  refine wpL_pure (.bool false) rfl (by kernel_rfl) ?_
  simp only [Act.put, List.setIfInBounds_toArray, List.set_cons_zero, List.set_cons_succ]
  go_upto_region 4 with (fail)
  go_wp2_with fail
  go_loopw [4] (fun s4 wr => ∃ k : Nat, s4 = .int .i64 (k : Int) ∧ Hid (k ≤ 200 ∧ Below b w wr ∧ ∃ s ls, NetSt wr b s ls ∧ ls.length = k)) (fun s4 _ => 200 - (intOf s4).toNat)
  case atStart => exact ⟨0, rfl, Lib.hid ⟨by omega, A2.out.2, _, _, A2.out.1, rfl⟩⟩
  case round =>
    obtain ⟨k, rfl, RI⟩ := hrel
    clear A2
    by_cases hlt : k < 200
    · have HK := Lib.hid hlt
      obtain ⟨hB, s, ls, hS, hl⟩ := RI.out.2
      have SD := Lib.hid (send_any wr b (k : Int) 0 none 0 0 [] s ls hS (by rw [hl]; exact hlt) (Row.nil _ _) (by omega) (fun _ => rfl))
      have LB := Lib.hid (And.intro hB (And.intro hS.lt hl))
      clear RI hlt hB hS hl
      go_upto_region 5 with (fail)
      refine wp_region_lit ?_
      refine wpL_pure (.int .i64 (k : Int)) rfl (by kernel_rfl) ?_
      simp only [Act.put, List.setIfInBounds_toArray, List.set_cons_zero, List.set_cons_succ]
      refine wpL_pure (.bool true) rfl (run_lti Try.underlying3 rfl rfl rfl (by have := HK.out; rw [decide_eq_true_eq]; omega)) ?_
      simp only [Act.put, List.setIfInBounds_toArray, List.set_cons_zero, List.set_cons_succ]
      go_upto_region 7 with (fail)
      refine wp_region_lit ?_
      refine wpL_pure (.pointer (some ⟨b, 0, none⟩)) rfl (by kernel_rfl) ?_
      simp only [Act.put, List.setIfInBounds_toArray, List.set_cons_zero, List.set_cons_succ]
      refine wpL_pure (.int .i64 (k : Int)) rfl (by kernel_rfl) ?_
      simp only [Act.put, List.setIfInBounds_toArray, List.set_cons_zero, List.set_cons_succ]
      refine wpL_pure (.agg #[.int .i64 (k : Int), .int .i64 0, .slice none 0 0]) rfl (by kernel_rfl) ?_
      simp only [Act.put, List.setIfInBounds_toArray, List.set_cons_zero, List.set_cons_succ]
      refine wpL_call 20 #[.pointer (some ⟨b, 0, none⟩), .agg #[.int .i64 (k : Int), .int .i64 0, .slice none 0 0]] rfl (by kernel_rfl) ((SD.out).mono fun e wn ⟨he, s', v', q1, q2⟩ => ⟨.bool true, he, ?_⟩)
      simp only [Act.put, List.setIfInBounds_toArray, List.set_cons_zero, List.set_cons_succ]
      have NX : Hid (Below b w wn ∧ ∃ s ls, NetSt wn b s ls ∧ ls.length = k + 1) := Lib.hid ⟨LB.out.1.trans q2, _, _, q1, by rw [List.length_append, LB.out.2.2]; rfl⟩
      clear q1 q2 SD
      refine wpL_pure (.bool false) rfl (by kernel_rfl) ?_
      simp only [Act.put, List.setIfInBounds_toArray, List.set_cons_zero, List.set_cons_succ]
      go_upto_region 6 with (fail)
      refine wp_region_lit ?_
      refine wpL_pure (.int .i64 (k : Int)) rfl (by kernel_rfl) ?_
      simp only [Act.put, List.setIfInBounds_toArray, List.set_cons_zero, List.set_cons_succ]
      refine wpL_pure (.int .i64 ((k + 1 : Nat) : Int)) rfl (run_addi Try.underlying3 rfl rfl rfl _ (by have := HK.out; rw [wrap_in _ (by omega) (by omega)]; omega)) ?_
      simp only [Act.put, List.setIfInBounds_toArray, List.set_cons_zero, List.set_cons_succ]
      refine wpL_pure (.int .i64 ((k + 1 : Nat) : Int)) rfl (by kernel_rfl) ?_
      simp only [Act.put, List.setIfInBounds_toArray, List.set_cons_zero, List.set_cons_succ]
      go_roundw
      case rel => first | exact ⟨k + 1, rfl, Lib.hid ⟨by have := HK.out; omega, NX.out⟩⟩ | ((repeat apply Exists.intro); exact ⟨⟨k + 1, rfl, Lib.hid ⟨by have := HK.out; omega, NX.out⟩⟩, rfl⟩)
      case measure => simp [intOf]; have := HK.out; omega
    · obtain ⟨hB, s, ls, hS, hl⟩ := RI.out.2
      have hk : k = 200 := by have := RI.out.1; omega
      subst hk
      have A3 : Hid (NetSt wr b s ls ∧ ls.length = 200 ∧ Below b w wr) := Lib.hid ⟨hS, hl, hB⟩
      clear RI hlt hB hS hl
      go_upto_region 5 with (fail)
      refine wp_region_lit ?_
      refine wpL_pure (.int .i64 ((200 : Nat) : Int)) rfl (by kernel_rfl) ?_
      simp only [Act.put, List.setIfInBounds_toArray, List.set_cons_zero, List.set_cons_succ]
      refine wpL_pure (.bool false) rfl (run_lti Try.underlying3 rfl rfl rfl (by decide)) ?_
      simp only [Act.put, List.setIfInBounds_toArray, List.set_cons_zero, List.set_cons_succ]
      go_upto_region 9 with (fail)
      refine wp_region_lit ?_
      refine wpL_pure (.pointer (some ⟨b, 0, none⟩)) rfl (by kernel_rfl) ?_
      simp only [Act.put, List.setIfInBounds_toArray, List.set_cons_zero, List.set_cons_succ]
      refine wpL_pure (.agg #[.int .i64 0, .int .i64 0, .slice none 0 0]) rfl (by kernel_rfl) ?_
      simp only [Act.put, List.setIfInBounds_toArray, List.set_cons_zero, List.set_cons_succ]
      refine wpL_call 20 #[.pointer (some ⟨b, 0, none⟩), .agg #[.int .i64 0, .int .i64 0, .slice none 0 0]] rfl (by kernel_rfl) ((send_full wr b 0 0 none 0 0 s ls A3.out.1 (by have := A3.out.2.1; omega)).mono fun e wa ⟨he, q1, q2⟩ => ⟨.bool false, he, ?_⟩)
      simp only [Act.put, List.setIfInBounds_toArray, List.set_cons_zero, List.set_cons_succ]
      have A4 : Hid (NetSt wa b s ls ∧ ls.length = 200 ∧ Below b w wa) := Lib.hid ⟨q1, A3.out.2.1, A3.out.2.2.trans (q2.mono (Nat.le_of_lt A3.out.1.lt))⟩
      clear q1 q2 A3
      refine wpL_pure (.bool false) rfl (by kernel_rfl) ?_
      simp only [Act.put, List.setIfInBounds_toArray, List.set_cons_zero, List.set_cons_succ]
      refine wpL_pure (.pointer (some ⟨b, 0, none⟩)) rfl (by kernel_rfl) ?_
      simp only [Act.put, List.setIfInBounds_toArray, List.set_cons_zero, List.set_cons_succ]
      refine wpL_pure (.int .i64 i) rfl (by kernel_rfl) ?_
      simp only [Act.put, List.setIfInBounds_toArray, List.set_cons_zero, List.set_cons_succ]
      refine wpL_call 25 #[.pointer (some ⟨b, 0, none⟩), .int .i64 i] rfl (by kernel_rfl) ((double_full wa b i s ls A4.out.1 (by have := A4.out.2.1; omega) (by have := A4.out.2.1; omega)).mono fun e wb ⟨he, q1, q2⟩ => ⟨.bool false, he, ?_⟩)
      simp only [Act.put, List.setIfInBounds_toArray, List.set_cons_zero, List.set_cons_succ]
      have A5 : Hid (NetSt wb b s ls ∧ ls.length = 200 ∧ Below b w wb) := Lib.hid ⟨q1, A4.out.2.1, A4.out.2.2.trans (q2.mono (Nat.le_of_lt A4.out.1.lt))⟩
      clear q1 q2 A4
      refine wpL_pure (.bool false) rfl (by kernel_rfl) ?_
      simp only [Act.put, List.setIfInBounds_toArray, List.set_cons_zero, List.set_cons_succ]
      refine wpL_pure (.bool false) rfl (by kernel_rfl) ?_
      simp only [Act.put, List.setIfInBounds_toArray, List.set_cons_zero, List.set_cons_succ]
      refine wpL_pure (.pointer (some ⟨b, 0, none⟩)) rfl (by kernel_rfl) ?_
      simp only [Act.put, List.setIfInBounds_toArray, List.set_cons_zero, List.set_cons_succ]
      refine wpL_call 28 #[.pointer (some ⟨b, 0, none⟩)] rfl (by kernel_rfl) ((count_any wb b _ _ A5.out.1).mono fun e wc ⟨he, hx⟩ => ⟨.int .i64 (ls.length : Int), he, ?_⟩)
      simp only [Act.put, List.setIfInBounds_toArray, List.set_cons_zero, List.set_cons_succ]
      subst hx
      refine wpL_pure (.bool false) rfl (run_nei Try.underlying3 rfl rfl rfl (by rw [A5.out.2.1]; decide)) ?_
      simp only [Act.put, List.setIfInBounds_toArray, List.set_cons_zero, List.set_cons_succ]
      refine wpL_pure (.bool false) rfl (by kernel_rfl) ?_
      simp only [Act.put, List.setIfInBounds_toArray, List.set_cons_zero, List.set_cons_succ]
      go_upto_region 11 with (fail)
      refine wp_region_lit ?_
      refine wpL_pure (.pointer (some ⟨b, 0, none⟩)) rfl (by kernel_rfl) ?_
      simp only [Act.put, List.setIfInBounds_toArray, List.set_cons_zero, List.set_cons_succ]
      refine wpL_pure (.int .i64 i) rfl (by kernel_rfl) ?_
      simp only [Act.put, List.setIfInBounds_toArray, List.set_cons_zero, List.set_cons_succ]
      refine wpL_call 22 #[.pointer (some ⟨b, 0, none⟩), .int .i64 i] rfl (by kernel_rfl) ((take_any wb b i s ls A5.out.1 (by have := A5.out.2.1; omega) (by have := A5.out.2.1; omega)).mono fun e wd ⟨l, u, s2, hl, he, hu, q1, q2⟩ => ⟨.tuple #[.agg #[.int .i64 l.f, .int .i64 l.t, u], .bool true], he, ?_⟩)
      simp only [Act.put, List.setIfInBounds_toArray, List.set_cons_zero, List.set_cons_succ]
      have ONEU : u.oneCell' = true := by obtain ⟨a, c, e⟩ := hu.slice; rw [e]; rfl
      have A6 : Hid (NetSt wd b s2 (ls.eraseIdx (plc i ls.length)) ∧ (ls.eraseIdx (plc i ls.length)).length = 199 ∧ Below b w wd) := Lib.hid ⟨q1, by have h1 := A5.out.2.1; rw [List.length_eraseIdx, if_pos (plc_lt _ _ (by omega)), h1], A5.out.2.2.trans (gb_below q2 (Nat.le_refl _) (Nat.le_of_lt A5.out.1.lt))⟩
      clear hl hu q1 q2 A5
      refine wpL_pure (.tuple #[.agg #[.int .i64 l.f, .int .i64 l.t, u], .bool true]) rfl (by kernel_rfl) ?_
      simp only [Act.put, List.setIfInBounds_toArray, List.set_cons_zero, List.set_cons_succ]
      refine wpL_pure (.agg #[.int .i64 l.f, .int .i64 l.t, u]) rfl (by kernel_rfl) ?_
      simp only [Act.put, List.setIfInBounds_toArray, List.set_cons_zero, List.set_cons_succ]
      refine wpL_pure (.bool true) rfl (by kernel_rfl) ?_
      simp only [Act.put, List.setIfInBounds_toArray, List.set_cons_zero, List.set_cons_succ]
      have BX := Lib.hid (box_frame wd l.f l.t u)
      obtain ⟨we, hwe⟩ : ∃ V, V = (wd.alloc (.cells #[.int .i64 0, .int .i64 0, .slice none 0 0] 43)).setRow wd.heap.size #[.int .i64 l.f, .int .i64 l.t, u] := ⟨_, rfl⟩
      rw [← hwe] at BX
      refine wpL_value (.pointer (some ⟨wd.heap.size, 0, none⟩)) (wd.alloc (.cells #[.int .i64 0, .int .i64 0, .slice none 0 0] 43)) rfl (by kernel_rfl) ?_
      simp only [Act.put, List.setIfInBounds_toArray, List.set_cons_zero, List.set_cons_succ]
      refine wpList_store_row rfl 43 _ _ rfl (wd.heap.size) (#[.int .i64 l.f, .int .i64 l.t, u]) rfl rfl _ _ (Blk.new wd 43 _) (by kernel_rfl) rfl (all3 _ _ _ ONEU) ?_
      simp only [Act.put, List.setIfInBounds_toArray, List.set_cons_zero, List.set_cons_succ]
      rw [← hwe]
      have A7 : Hid (NetSt we b s2 (ls.eraseIdx (plc i ls.length)) ∧ (ls.eraseIdx (plc i ls.length)).length = 199 ∧ Below b w we) := Lib.hid ⟨A6.out.1.below BX.out.2, A6.out.2.1, A6.out.2.2.trans (BX.out.2.mono (Nat.le_of_lt A6.out.1.lt))⟩
      clear BX A6 hwe
      generalize wd.heap.size = g5
      generalize ls.eraseIdx (plc i ls.length) = l2 at A7
      refine wpL_pure (.bool true) rfl (by kernel_rfl) ?_
      simp only [Act.put, List.setIfInBounds_toArray, List.set_cons_zero, List.set_cons_succ]
      go_upto_region 12 with (fail)
      refine wp_region_lit ?_
      refine wpL_pure (.bool true) rfl (by kernel_rfl) ?_
      simp only [Act.put, List.setIfInBounds_toArray, List.set_cons_zero, List.set_cons_succ]
      refine wpL_pure (.bool true) rfl (by kernel_rfl) ?_
      simp only [Act.put, List.setIfInBounds_toArray, List.set_cons_zero, List.set_cons_succ]
      refine wpL_pure (.pointer (some ⟨b, 0, none⟩)) rfl (by kernel_rfl) ?_
      simp only [Act.put, List.setIfInBounds_toArray, List.set_cons_zero, List.set_cons_succ]
      refine wpL_pure (.int .i64 i) rfl (by kernel_rfl) ?_
      simp only [Act.put, List.setIfInBounds_toArray, List.set_cons_zero, List.set_cons_succ]
      refine wpL_call 25 #[.pointer (some ⟨b, 0, none⟩), .int .i64 i] rfl (by kernel_rfl) ((double_any we b i s2 l2 A7.out.1 (by have := A7.out.2.1; omega) (by have := A7.out.2.1; omega)).mono fun e wf ⟨he, l3, s3, v3, hl3, q1, q2⟩ => ⟨.bool true, he, ?_⟩)
      simp only [Act.put, List.setIfInBounds_toArray, List.set_cons_zero, List.set_cons_succ]
      have A8 : Hid (NetSt wf b s3 (l2 ++ [(⟨l3.f, l3.t, v3, l3.xs⟩ : Ltr)]) ∧ Below b w wf) := Lib.hid ⟨q1, A7.out.2.2.trans q2⟩
      clear q1 q2 hl3
      refine wpL_pure (.bool true) rfl (by kernel_rfl) ?_
      simp only [Act.put, List.setIfInBounds_toArray, List.set_cons_zero, List.set_cons_succ]
      refine wpL_pure (.bool true) rfl (by kernel_rfl) ?_
      simp only [Act.put, List.setIfInBounds_toArray, List.set_cons_zero, List.set_cons_succ]
      refine wpL_pure (.pointer (some ⟨b, 0, none⟩)) rfl (by kernel_rfl) ?_
      simp only [Act.put, List.setIfInBounds_toArray, List.set_cons_zero, List.set_cons_succ]
      refine wpL_call 28 #[.pointer (some ⟨b, 0, none⟩)] rfl (by kernel_rfl) ((count_any wf b _ _ A8.out.1).mono fun e wh ⟨he, hx⟩ => ⟨.int .i64 ((l2 ++ [(⟨l3.f, l3.t, v3, l3.xs⟩ : Ltr)]).length : Int), he, ?_⟩)
      simp only [Act.put, List.setIfInBounds_toArray, List.set_cons_zero, List.set_cons_succ]
      subst hx
      refine wpL_pure (.bool true) rfl (run_eqi Try.underlying3 rfl rfl rfl (by rw [List.length_append, A7.out.2.1, decide_eq_true_eq]; rfl)) ?_
      simp only [Act.put, List.setIfInBounds_toArray, List.set_cons_zero, List.set_cons_succ]
      refine wpL_pure (.bool true) rfl (by kernel_rfl) ?_
      simp only [Act.put, List.setIfInBounds_toArray, List.set_cons_zero, List.set_cons_succ]
      go_wp2_with fail
      go_ret
      exact ⟨rfl, by rw [HG.out]; exact A8.out.2⟩
end Go.Proofs.Ytoeojgdolanggaa
