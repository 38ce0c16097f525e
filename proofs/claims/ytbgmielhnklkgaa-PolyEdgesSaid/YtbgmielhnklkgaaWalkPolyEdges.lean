import Derived.Test.YtbgmielhnklkgaaR6
namespace Go.Proofs.Ytbgmielhnklkgaa
open Go Go.RowKit

attribute [local irreducible] wpList
set_option maxRecDepth 100000 in
set_option maxHeartbeats 8000000 in
theorem walkPolyEdges (k0 b0 p0 : Int) (hk : (Lit.int .u8 k0).wf = true) (hb : (Lit.int .u8 b0).wf = true) (hp : (Lit.int .u16 p0).wf = true) (w : World) :
    Calls Try.prog 6 #[.int .u8 k0, .int .u8 b0, .int .u16 p0] w fun e w' => e = .returned (.bool true) ∧ Below w.heap.size w w' := by
  obtain ⟨p, rfl, hpp⟩ := nat_u16' hp
  obtain ⟨kx, rfl, hkx⟩ : ∃ q : Nat, k0 = (q : Int) ∧ q < 256 := ⟨k0.toNat, by have := bounds_u8 hk; omega, by have := bounds_u8 hk; omega⟩
  obtain ⟨bx, rfl, hbx⟩ : ∃ q : Nat, b0 = (q : Int) ∧ q < 256 := ⟨b0.toNat, by have := bounds_u8 hb; omega, by have := bounds_u8 hb; omega⟩
  have HPP := Lib.hid hpp
  have HKX := Lib.hid hkx
  have HBX := Lib.hid hbx
  clear hk hb hp hpp hkx hbx
  go_enter Try.func6, Try.ntmps6
  go_upto_region 0 with (fail)
  refine wp_region_lit ?_
  refine wpL_pure (.bool false) rfl (by kernel_rfl) ?_
  simp only [Act.put, List.setIfInBounds_toArray, List.set_cons_zero, List.set_cons_succ]
  obtain ⟨w1, hw1⟩ : ∃ V, V = w.alloc (.cells (u8l (ek kx 0)).toArray 23) := ⟨_, rfl⟩
  have B1 : Hid (Below w.heap.size w w1 ∧ Blk w1 w.heap.size 23 (u8l (ek kx 0)).toArray) := Lib.hid (by rw [hw1]; exact ⟨(Below.refl _ _).alloc (Nat.le_refl _) _, Blk.new _ _ _⟩)
  go_upto_region 1 with (fail)
  refine wp_region_lit ?_
  refine wpL_value (.pointer (some ⟨w.heap.size, 0, none⟩)) (w1) rfl (by rw [hw1]; kernel_rfl) ?_
  simp only [Act.put, List.setIfInBounds_toArray, List.set_cons_zero, List.set_cons_succ]
  clear hw1
  obtain ⟨g2, hg2⟩ : ∃ q, w.heap.size = q := ⟨_, rfl⟩
  have G2 := Lib.hid hg2
  rw [hg2] at B1
  try rw [hg2]
  clear hg2
  go_upto_region 2 with (fail)
  refine wp_region_lit ?_
  refine wpL_pure (.int .i64 0) rfl (by kernel_rfl) ?_
  simp only [Act.put, List.setIfInBounds_toArray, List.set_cons_zero, List.set_cons_succ]
  go_wp2_with fail
  go_loopw [8] (fun s8 wr => ∃ k : Nat, s8 = .int .i64 ((k : Nat) : Int) ∧ Hid (k ≤ 32 ∧ Below g2 w wr ∧ Blk wr g2 23 (u8l (ek kx k)).toArray)) (fun s8 _ => 32 - (intOf s8).toNat)
  case atStart => exact ⟨0, rfl, Lib.hid ⟨by omega, B1.out⟩⟩
  case round =>
    obtain ⟨k, rfl, RI⟩ := hrel
    by_cases hlt : k < 32
    · have HK := Lib.hid hlt
      clear hlt
      go_upto_region 3 with (fail)
      refine wp_region_lit ?_
      refine wpL_pure (.int .i64 ((k : Nat) : Int)) rfl (by kernel_rfl) ?_
      simp only [Act.put, List.setIfInBounds_toArray, List.set_cons_zero, List.set_cons_succ]
      refine wpL_pure (.bool true) rfl (run_lti Try.underlying3 rfl rfl rfl (by have := HK.out; rw [decide_eq_true_eq]; omega)) ?_
      simp only [Act.put, List.setIfInBounds_toArray, List.set_cons_zero, List.set_cons_succ]
      go_upto_region 5 with (fail)
      refine wp_region_lit ?_
      refine wpL_pure (.int .i64 ((k : Nat) : Int)) rfl (by kernel_rfl) ?_
      simp only [Act.put, List.setIfInBounds_toArray, List.set_cons_zero, List.set_cons_succ]
      refine wpL_pure (.int .u8 ((kx : Nat) : Int)) rfl (by kernel_rfl) ?_
      simp only [Act.put, List.setIfInBounds_toArray, List.set_cons_zero, List.set_cons_succ]
      refine wpL_pure (.pointer (some ⟨g2, 0 + k, none⟩)) rfl (run_idxa23 _ _ _ _ _ g2 0 k rfl rfl rfl HK.out) ?_
      simp only [Act.put, List.setIfInBounds_toArray, List.set_cons_zero, List.set_cons_succ]
      refine wpL_store_one rfl rfl (g2) (0 + k) rfl (.int .u8 ((kx : Nat) : Int)) rfl rfl size5 (by rw [RI.out.2.2.cell]; simp [u8l, ek_len]; have := HK.out; omega) (RI.out.2.2.free _) ?_
      simp only [Act.put, List.setIfInBounds_toArray, List.set_cons_zero, List.set_cons_succ]
      obtain ⟨w4, hw4⟩ : ∃ V, V = wr.setCell ⟨g2, 0 + k, none⟩ (.int .u8 ((kx : Nat) : Int)) := ⟨_, rfl⟩
      rw [← hw4]
      have NX : Hid (k + 1 ≤ 32 ∧ Below g2 w w4 ∧ Blk w4 g2 23 (u8l (ek kx (k + 1))).toArray) := Lib.hid (by rw [hw4, Nat.zero_add]; exact ⟨HK.out, RI.out.2.1.setCell (p := ⟨g2, k, none⟩) (Nat.le_refl _) _, ek_set HK.out RI.out.2.2⟩)
      clear hw4
      go_upto_region 4 with (fail)
      refine wp_region_lit ?_
      refine wpL_pure (.int .i64 ((k : Nat) : Int)) rfl (by kernel_rfl) ?_
      simp only [Act.put, List.setIfInBounds_toArray, List.set_cons_zero, List.set_cons_succ]
      refine wpL_pure (.int .i64 ((k + 1 : Nat) : Int)) rfl (run_addi Try.underlying3 rfl rfl rfl _ (by have := HK.out; rw [wrap_in _ (by omega) (by omega)]; omega)) ?_
      simp only [Act.put, List.setIfInBounds_toArray, List.set_cons_zero, List.set_cons_succ]
      refine wpL_pure (.int .i64 ((k + 1 : Nat) : Int)) rfl (by kernel_rfl) ?_
      simp only [Act.put, List.setIfInBounds_toArray, List.set_cons_zero, List.set_cons_succ]
      unfold wpList
      go_roundw
      case rel => first | exact ⟨k + 1, rfl, NX⟩ | ((repeat apply Exists.intro); exact ⟨⟨k + 1, rfl, NX⟩, rfl⟩)
      case measure => simp [intOf]; have := HK.out; omega
    · have HK := Lib.hid hlt
      have EK : Hid (k = 32) := Lib.hid (by have := RI.out.1; omega)
      clear hlt
      obtain ⟨key, hkey⟩ : ∃ q, ek kx 32 = q := ⟨_, rfl⟩
      have HKY : Hid (key.length = 32 ∧ ∀ x ∈ key, 0 ≤ x ∧ x ≤ 255) := Lib.hid (by rw [← hkey]; exact ek_ok HKX.out (Nat.le_refl 32))
      have B2 : Hid (Below g2 w wr ∧ Blk wr g2 23 (u8l key).toArray) := Lib.hid (by have h := RI.out.2; rw [EK.out, hkey] at h; exact h)
      clear hkey RI B1
      obtain ⟨W0, hW0⟩ : ∃ V, wr = V := ⟨_, rfl⟩
      rw [hW0] at B2
      rw [hW0]
      clear hW0
      obtain ⟨m, hm⟩ : ∃ q, p % 300 = q := ⟨_, rfl⟩
      have HM : Hid (p % 300 = m ∧ m < 300) := Lib.hid ⟨hm, by omega⟩
      clear hm
      go_upto_region 3 with (fail)
      refine wp_region_lit ?_
      refine wpL_pure (.int .i64 ((k : Nat) : Int)) rfl (by kernel_rfl) ?_
      simp only [Act.put, List.setIfInBounds_toArray, List.set_cons_zero, List.set_cons_succ]
      refine wpL_pure (.bool false) rfl (run_lti Try.underlying3 rfl rfl rfl (by have := HK.out; rw [decide_eq_false_iff_not]; omega)) ?_
      simp only [Act.put, List.setIfInBounds_toArray, List.set_cons_zero, List.set_cons_succ]
      go_upto_region 6 with (fail)
      refine wp_region_lit ?_
      refine wpL_pure (.slice none 0 0) rfl (by kernel_rfl) ?_
      simp only [Act.put, List.setIfInBounds_toArray, List.set_cons_zero, List.set_cons_succ]
      go_upto_region 7 with (fail)
      refine wp_region_lit ?_
      refine wpL_pure (.int .i64 0) rfl (by kernel_rfl) ?_
      simp only [Act.put, List.setIfInBounds_toArray, List.set_cons_zero, List.set_cons_succ]
      go_wp2_with fail
      go_loopw [9, 10] (fun s9 s10 wr => ∃ (j : Nat) (v : Value), v = s9 ∧ s10 = .int .i64 ((j : Nat) : Int) ∧ Hid (j ≤ m ∧ BPSt W0 wr v (List.replicate j ((bx : Nat) : Int)))) (fun _ s10 _ => m - (intOf s10).toNat)
      case atStart => exact ⟨0, _, rfl, rfl, Lib.hid ⟨by omega, BPSt.nil W0⟩⟩
      case round =>
        obtain ⟨j, v, rfl, rfl, RJ⟩ := hrel
        by_cases hlt2 : j < m
        · have HK2 := Lib.hid hlt2
          clear hlt2
          go_upto_region 8 with (fail)
          refine wp_region_lit ?_
          refine wpL_pure (.int .i64 ((j : Nat) : Int)) rfl (by kernel_rfl) ?_
          simp only [Act.put, List.setIfInBounds_toArray, List.set_cons_zero, List.set_cons_succ]
          refine wpL_pure (.int .u16 ((p : Nat) : Int)) rfl (by kernel_rfl) ?_
          simp only [Act.put, List.setIfInBounds_toArray, List.set_cons_zero, List.set_cons_succ]
          refine wpL_pure (.int .u16 ((m : Nat) : Int)) rfl (run_rem300 _ _ _ _ p m rfl rfl HM.out.1) ?_
          simp only [Act.put, List.setIfInBounds_toArray, List.set_cons_zero, List.set_cons_succ]
          refine wpL_pure (.int .i64 ((m : Nat) : Int)) rfl (run_convi Try.underlying30 Try.underlying3 rfl rfl _ (by have := HM.out; rw [wrap_in _ (by omega) (by omega)])) ?_
          simp only [Act.put, List.setIfInBounds_toArray, List.set_cons_zero, List.set_cons_succ]
          refine wpL_pure (.bool true) rfl (run_lti Try.underlying3 rfl rfl rfl (by have := HK2.out; rw [decide_eq_true_eq]; omega)) ?_
          simp only [Act.put, List.setIfInBounds_toArray, List.set_cons_zero, List.set_cons_succ]
          obtain ⟨q1, hq1⟩ : ∃ V, V = wr.alloc (.cells #[.int .u8 ((bx : Nat) : Int)] 5) := ⟨_, rfl⟩
          obtain ⟨v2, q2, r1, r2⟩ := RJ.out.2.push ((bx : Nat) : Int) (by have := HBX.out; omega) (by rw [List.length_replicate]; have := HM.out; have := HK2.out; omega) q1 hq1
          have AQ := Lib.hid r1
          have PQ := Lib.hid r2
          have HQ := Lib.hid hq1
          clear r1 r2 hq1
          go_upto_region 10 with (fail)
          refine wp_region_lit ?_
          refine wpL_pure (v) rfl (by kernel_rfl) ?_
          simp only [Act.put, List.setIfInBounds_toArray, List.set_cons_zero, List.set_cons_succ]
          refine wpL_pure (.int .u8 ((bx : Nat) : Int)) rfl (by kernel_rfl) ?_
          simp only [Act.put, List.setIfInBounds_toArray, List.set_cons_zero, List.set_cons_succ]
          refine wpL_value (.slice (some ⟨wr.heap.size, 0, none⟩) 1 1) (q1) rfl (by rw [HQ.out]; kernel_rfl) ?_
          simp only [Act.put, List.setIfInBounds_toArray, List.set_cons_zero, List.set_cons_succ]
          clear HQ
          refine wpL_value (v2) (q2) rfl (run_app _ _ _ _ _ _ _ _ _ rfl rfl rfl rfl AQ.out) ?_
          simp only [Act.put, List.setIfInBounds_toArray, List.set_cons_zero, List.set_cons_succ]
          clear AQ
          refine wpL_pure (v2) rfl (by kernel_rfl) ?_
          simp only [Act.put, List.setIfInBounds_toArray, List.set_cons_zero, List.set_cons_succ]
          go_upto_region 9 with (fail)
          refine wp_region_lit ?_
          refine wpL_pure (.int .i64 ((j : Nat) : Int)) rfl (by kernel_rfl) ?_
          simp only [Act.put, List.setIfInBounds_toArray, List.set_cons_zero, List.set_cons_succ]
          refine wpL_pure (.int .i64 ((j + 1 : Nat) : Int)) rfl (run_addi Try.underlying3 rfl rfl rfl _ (by have := HK2.out; have := HM.out; rw [wrap_in _ (by omega) (by omega)]; omega)) ?_
          simp only [Act.put, List.setIfInBounds_toArray, List.set_cons_zero, List.set_cons_succ]
          refine wpL_pure (.int .i64 ((j + 1 : Nat) : Int)) rfl (by kernel_rfl) ?_
          simp only [Act.put, List.setIfInBounds_toArray, List.set_cons_zero, List.set_cons_succ]
          have NX : Hid (j + 1 ≤ m ∧ BPSt W0 q2 v2 (List.replicate (j + 1) ((bx : Nat) : Int))) := Lib.hid ⟨HK2.out, by rw [List.replicate_succ']; exact PQ.out⟩
          unfold wpList
          go_roundw
          case rel => first | exact ⟨j + 1, _, rfl, rfl, NX⟩ | ((repeat apply Exists.intro); exact ⟨⟨j + 1, _, rfl, rfl, NX⟩, rfl⟩)
          case measure => simp [intOf]; have := HK2.out; omega
        · have HK2 := Lib.hid hlt2
          have EJ : Hid (j = m) := Lib.hid (by have := RJ.out.1; omega)
          clear hlt2
          go_upto_region 8 with (fail)
          refine wp_region_lit ?_
          refine wpL_pure (.int .i64 ((j : Nat) : Int)) rfl (by kernel_rfl) ?_
          simp only [Act.put, List.setIfInBounds_toArray, List.set_cons_zero, List.set_cons_succ]
          refine wpL_pure (.int .u16 ((p : Nat) : Int)) rfl (by kernel_rfl) ?_
          simp only [Act.put, List.setIfInBounds_toArray, List.set_cons_zero, List.set_cons_succ]
          refine wpL_pure (.int .u16 ((m : Nat) : Int)) rfl (run_rem300 _ _ _ _ p m rfl rfl HM.out.1) ?_
          simp only [Act.put, List.setIfInBounds_toArray, List.set_cons_zero, List.set_cons_succ]
          refine wpL_pure (.int .i64 ((m : Nat) : Int)) rfl (run_convi Try.underlying30 Try.underlying3 rfl rfl _ (by have := HM.out; rw [wrap_in _ (by omega) (by omega)])) ?_
          simp only [Act.put, List.setIfInBounds_toArray, List.set_cons_zero, List.set_cons_succ]
          refine wpL_pure (.bool false) rfl (run_lti Try.underlying3 rfl rfl rfl (by have := HK2.out; rw [decide_eq_false_iff_not]; omega)) ?_
          simp only [Act.put, List.setIfInBounds_toArray, List.set_cons_zero, List.set_cons_succ]
          obtain ⟨a, c, ev, hsl⟩ := own_sl RJ.out.2.1
          obtain ⟨t, ht⟩ : ∃ q, List.replicate j ((bx : Nat) : Int) = q := ⟨_, rfl⟩
          rw [ht] at ev hsl
          obtain ⟨n, hn⟩ : ∃ q, t.length = q := ⟨_, rfl⟩
          have HN : Hid (n ≤ 400) := Lib.hid (by rw [← hn, ← ht, List.length_replicate]; have := HM.out; have := EJ.out; omega)
          rw [hn] at ev hsl
          have HS : Hid (Sl wr a n c t) := Lib.hid hsl
          have EV := Lib.hid ev
          have F0 : Hid (Below wr.heap.size wr wr.drew ∧ Blk wr.drew g2 23 (u8l key).toArray ∧ Below g2 w wr.drew) := Lib.hid ⟨(Below.refl _ _).drew, B2.out.2.below RJ.out.2.2.drew, (B2.out.1.trans (RJ.out.2.2.mono (by have := B2.out.2.lt; omega))).drew⟩
          have GW : Hid (g2 ≤ wr.heap.size) := Lib.hid (by have h1 := B2.out.2.lt; have h2 := RJ.out.2.2.size; omega)
          clear hsl ht hn B2 RJ
          rw [EV.out]
          clear ev EV
          go_upto_region 11 with (fail)
          refine region_any (by kernel_rfl) 12 rfl ?_
          refine wpAny_all (rs := [0]) (by kernel_rfl) (by simp) ?_
          intro i hi
          simp only [List.mem_cons, List.not_mem_nil, or_false] at hi
          subst hi
          refine op_call (o := ⟨some 29, _, _, _, _, _⟩) 9 #[] rfl rfl (by kernel_rfl) (((awake_any wr.drew)).mono fun e z1 ⟨he, qz1⟩ => ⟨.bool true, he, ?_⟩)
          simp only [Act.put, List.setIfInBounds_toArray, List.set_cons_zero, List.set_cons_succ]
          have Fz1 := Lib.hid (show Below wr.heap.size wr z1 ∧ Blk z1 g2 23 (u8l key).toArray ∧ Below g2 w z1 from ⟨F0.out.1.trans (qz1.mono F0.out.1.size), F0.out.2.1.below qz1, F0.out.2.2.trans (qz1.mono (by have h1 := (F0.out.1).size; have h2 := GW.out; omega))⟩)
          clear qz1
          refine wpAny_take (i := 1) (oi := ⟨some 30, _, _, _, _, _⟩) (v := (.bool true)) rfl (by kernel_rfl) (by kernel_rfl) (by kernel_rfl) (fun _ _ _ h => h) (Or.inl ⟨rfl, fun w => by kernel_rfl⟩) ?_
          simp only [Act.put, List.setIfInBounds_toArray, List.set_cons_zero, List.set_cons_succ]
          refine wpAny_take (i := 3) (oi := ⟨some 32, _, _, _, _, _⟩) (v := (.slice a n c)) rfl (by kernel_rfl) (by kernel_rfl) (by kernel_rfl) (fun _ _ _ h => h) (Or.inl ⟨rfl, fun w => by kernel_rfl⟩) ?_
          simp only [Act.put, List.setIfInBounds_toArray, List.set_cons_zero, List.set_cons_succ]
          refine wpAny_take (i := 7) (oi := ⟨some 36, _, _, _, _, _⟩) (v := (.slice a n c)) rfl (by kernel_rfl) (by kernel_rfl) (by kernel_rfl) (fun _ _ _ h => h) (Or.inl ⟨rfl, fun w => by kernel_rfl⟩) ?_
          simp only [Act.put, List.setIfInBounds_toArray, List.set_cons_zero, List.set_cons_succ]
          refine wpAny_all (rs := [2, 4, 6]) (by kernel_rfl) (by simp) ?_
          intro i hi
          simp only [List.mem_cons, List.not_mem_nil, or_false] at hi
          rcases hi with rfl | rfl | rfl
          · refine op_val (o := ⟨some 31, _, _, _, _, _⟩) (.agg (u8l key).toArray) rfl rfl (run_load_mid _ _ _ 23 _ rfl g2 0 rfl (u8l key) _ (range_blk (Fz1.out.2.1)) Try.underlying23 rfl (by rw [u8l_len, HKY.out.1]; kernel_rfl)) ?_
            simp only [Act.put, List.setIfInBounds_toArray, List.set_cons_zero, List.set_cons_succ]
            refine wpAny_all (rs := [4, 6]) (by kernel_rfl) (by simp) ?_
            intro i hi
            simp only [List.mem_cons, List.not_mem_nil, or_false] at hi
            rcases hi with rfl | rfl
            · obtain ⟨z3, hz3⟩ : ∃ V, V = z1.alloc (.cells #[.slice a n c] 24) := ⟨_, rfl⟩
              obtain ⟨gz3, kz3⟩ : ∃ q, z1.heap.size = q := ⟨_, rfl⟩
              have qz3 : Below z1.heap.size z1 z3 := by rw [hz3]; exact (Below.refl _ _).alloc (Nat.le_refl _) _
              have bz3 : Blk z3 gz3 24 #[.slice a n c] := by rw [hz3, ← kz3]; exact Blk.new _ _ _
              have Fz30 := Lib.hid (show Below wr.heap.size wr z3 ∧ Blk z3 g2 23 (u8l key).toArray ∧ Below g2 w z3 from ⟨Fz1.out.1.trans (qz3.mono Fz1.out.1.size), Fz1.out.2.1.below qz3, Fz1.out.2.2.trans (qz3.mono (by have h1 := (Fz1.out.1).size; have h2 := GW.out; omega))⟩)
              have Fz3 := Lib.hid (show Below wr.heap.size wr z3 ∧ Blk z3 g2 23 (u8l key).toArray ∧ Below g2 w z3 ∧ PSl z3 (some ⟨gz3, 0, none⟩) 1 [t] from ⟨Fz30.out.1, Fz30.out.2.1, Fz30.out.2.2, psl_one bz3 (HS.out.below Fz30.out.1) (by have := HN.out; omega)⟩)
              clear qz3 bz3 Fz30
              refine op_valw (o := ⟨some 33, _, _, _, _, _⟩) (.slice (some ⟨gz3, 0, none⟩) 1 1) z3 rfl rfl (by rw [hz3, ← kz3]; kernel_rfl) ?_
              simp only [Act.put, List.setIfInBounds_toArray, List.set_cons_zero, List.set_cons_succ]
              clear hz3 kz3
              refine wpAny_all (rs := [5, 6]) (by kernel_rfl) (by simp) ?_
              intro i hi
              simp only [List.mem_cons, List.not_mem_nil, or_false] at hi
              rcases hi with rfl | rfl
              · refine op_call (o := ⟨some 34, _, _, _, _, _⟩) 10 #[.agg (u8l key).toArray, .slice (some ⟨gz3, 0, none⟩) 1 1] rfl rfl (by kernel_rfl) (((code_flat z3 key gz3 1 [t] (t) HKY.out Fz3.out.2.2.2 (by omega) (by simp))).mono fun e z4 ⟨he, qz4⟩ => ⟨.agg (u8l (codeS key t)).toArray, he, ?_⟩)
                simp only [Act.put, List.setIfInBounds_toArray, List.set_cons_zero, List.set_cons_succ]
                have Fz4 := Lib.hid (show Below wr.heap.size wr z4 ∧ Blk z4 g2 23 (u8l key).toArray ∧ Below g2 w z4 ∧ PSl z4 (some ⟨gz3, 0, none⟩) 1 [t] from ⟨Fz3.out.1.trans (qz4.mono Fz3.out.1.size), Fz3.out.2.1.below qz4, Fz3.out.2.2.1.trans (qz4.mono (by have h1 := (Fz3.out.1).size; have h2 := GW.out; omega)), Fz3.out.2.2.2.below qz4⟩)
                clear qz4
                refine wpAny_all (rs := [6]) (by kernel_rfl) (by simp) ?_
                intro i hi
                simp only [List.mem_cons, List.not_mem_nil, or_false] at hi
                subst hi
                refine op_val (o := ⟨some 35, _, _, _, _, _⟩) (.agg (u8l key).toArray) rfl rfl (run_load_mid _ _ _ 23 _ rfl g2 0 rfl (u8l key) _ (range_blk (Fz4.out.2.1)) Try.underlying23 rfl (by rw [u8l_len, HKY.out.1]; kernel_rfl)) ?_
                simp only [Act.put, List.setIfInBounds_toArray, List.set_cons_zero, List.set_cons_succ]
                refine wpAny_all (rs := [8]) (by kernel_rfl) (by simp) ?_
                intro i hi
                simp only [List.mem_cons, List.not_mem_nil, or_false] at hi
                subst hi
                refine op_call (o := ⟨some 37, _, _, _, _, _⟩) 11 #[.agg (u8l key).toArray, .slice a n c] rfl rfl (by kernel_rfl) (((refcode_any z4 key _ _ _ t HKY.out (HS.out.below Fz4.out.1) (by have := HN.out; omega))).mono fun e z6 ⟨he, qz6⟩ => ⟨.agg (u8l (codeS key t)).toArray, he, ?_⟩)
                simp only [Act.put, List.setIfInBounds_toArray, List.set_cons_zero, List.set_cons_succ]
                have Fz6 := Lib.hid (show Below wr.heap.size wr z6 ∧ Blk z6 g2 23 (u8l key).toArray ∧ Below g2 w z6 ∧ PSl z6 (some ⟨gz3, 0, none⟩) 1 [t] from ⟨Fz4.out.1.trans (qz6.mono Fz4.out.1.size), Fz4.out.2.1.below qz6, Fz4.out.2.2.1.trans (qz6.mono (by have h1 := (Fz4.out.1).size; have h2 := GW.out; omega)), Fz4.out.2.2.2.below qz6⟩)
                clear qz6
                refine wpAny_take (i := 9) (oi := ⟨some 38, _, _, _, _, _⟩) (v := (.bool true)) rfl (by kernel_rfl) (by kernel_rfl) (by kernel_rfl) (fun _ _ _ h => h) (Or.inl ⟨rfl, fun w => run_eq26 _ _ _ _ _ (codeS key t) (codeS_len _ _) rfl rfl rfl⟩) ?_
                simp only [Act.put, List.setIfInBounds_toArray, List.set_cons_zero, List.set_cons_succ]
                refine wpAny_take (i := 10) (oi := ⟨some 39, _, _, _, _, _⟩) (v := (.bool true)) rfl (by kernel_rfl) (by kernel_rfl) (by kernel_rfl) (fun _ _ _ h => h) (Or.inl ⟨rfl, fun w => by kernel_rfl⟩) ?_
                simp only [Act.put, List.setIfInBounds_toArray, List.set_cons_zero, List.set_cons_succ]
                refine wpAny_take (i := 11) (oi := ⟨some 6, _, _, _, _, _⟩) (v := (.bool true)) rfl (by kernel_rfl) (by kernel_rfl) (by kernel_rfl) (fun _ _ _ h => h) (Or.inl ⟨rfl, fun w => by kernel_rfl⟩) ?_
                simp only [Act.put, List.setIfInBounds_toArray, List.set_cons_zero, List.set_cons_succ]
                refine wpAny_done (by kernel_rfl) ?_ _
                go_wp2_with fail
                go_ret
                exact ⟨rfl, by rw [G2.out]; exact Fz6.out.2.2.1⟩
              · refine op_val (o := ⟨some 35, _, _, _, _, _⟩) (.agg (u8l key).toArray) rfl rfl (run_load_mid _ _ _ 23 _ rfl g2 0 rfl (u8l key) _ (range_blk (Fz3.out.2.1)) Try.underlying23 rfl (by rw [u8l_len, HKY.out.1]; kernel_rfl)) ?_
                simp only [Act.put, List.setIfInBounds_toArray, List.set_cons_zero, List.set_cons_succ]
                refine wpAny_all (rs := [5]) (by kernel_rfl) (by simp) ?_
                intro i hi
                simp only [List.mem_cons, List.not_mem_nil, or_false] at hi
                subst hi
                refine op_call (o := ⟨some 34, _, _, _, _, _⟩) 10 #[.agg (u8l key).toArray, .slice (some ⟨gz3, 0, none⟩) 1 1] rfl rfl (by kernel_rfl) (((code_flat z3 key gz3 1 [t] (t) HKY.out Fz3.out.2.2.2 (by omega) (by simp))).mono fun e z8 ⟨he, qz8⟩ => ⟨.agg (u8l (codeS key t)).toArray, he, ?_⟩)
                simp only [Act.put, List.setIfInBounds_toArray, List.set_cons_zero, List.set_cons_succ]
                have Fz8 := Lib.hid (show Below wr.heap.size wr z8 ∧ Blk z8 g2 23 (u8l key).toArray ∧ Below g2 w z8 ∧ PSl z8 (some ⟨gz3, 0, none⟩) 1 [t] from ⟨Fz3.out.1.trans (qz8.mono Fz3.out.1.size), Fz3.out.2.1.below qz8, Fz3.out.2.2.1.trans (qz8.mono (by have h1 := (Fz3.out.1).size; have h2 := GW.out; omega)), Fz3.out.2.2.2.below qz8⟩)
                clear qz8
                refine wpAny_all (rs := [8]) (by kernel_rfl) (by simp) ?_
                intro i hi
                simp only [List.mem_cons, List.not_mem_nil, or_false] at hi
                subst hi
                refine op_call (o := ⟨some 37, _, _, _, _, _⟩) 11 #[.agg (u8l key).toArray, .slice a n c] rfl rfl (by kernel_rfl) (((refcode_any z8 key _ _ _ t HKY.out (HS.out.below Fz8.out.1) (by have := HN.out; omega))).mono fun e z9 ⟨he, qz9⟩ => ⟨.agg (u8l (codeS key t)).toArray, he, ?_⟩)
                simp only [Act.put, List.setIfInBounds_toArray, List.set_cons_zero, List.set_cons_succ]
                have Fz9 := Lib.hid (show Below wr.heap.size wr z9 ∧ Blk z9 g2 23 (u8l key).toArray ∧ Below g2 w z9 ∧ PSl z9 (some ⟨gz3, 0, none⟩) 1 [t] from ⟨Fz8.out.1.trans (qz9.mono Fz8.out.1.size), Fz8.out.2.1.below qz9, Fz8.out.2.2.1.trans (qz9.mono (by have h1 := (Fz8.out.1).size; have h2 := GW.out; omega)), Fz8.out.2.2.2.below qz9⟩)
                clear qz9
                refine wpAny_take (i := 9) (oi := ⟨some 38, _, _, _, _, _⟩) (v := (.bool true)) rfl (by kernel_rfl) (by kernel_rfl) (by kernel_rfl) (fun _ _ _ h => h) (Or.inl ⟨rfl, fun w => run_eq26 _ _ _ _ _ (codeS key t) (codeS_len _ _) rfl rfl rfl⟩) ?_
                simp only [Act.put, List.setIfInBounds_toArray, List.set_cons_zero, List.set_cons_succ]
                refine wpAny_take (i := 10) (oi := ⟨some 39, _, _, _, _, _⟩) (v := (.bool true)) rfl (by kernel_rfl) (by kernel_rfl) (by kernel_rfl) (fun _ _ _ h => h) (Or.inl ⟨rfl, fun w => by kernel_rfl⟩) ?_
                simp only [Act.put, List.setIfInBounds_toArray, List.set_cons_zero, List.set_cons_succ]
                refine wpAny_take (i := 11) (oi := ⟨some 6, _, _, _, _, _⟩) (v := (.bool true)) rfl (by kernel_rfl) (by kernel_rfl) (by kernel_rfl) (fun _ _ _ h => h) (Or.inl ⟨rfl, fun w => by kernel_rfl⟩) ?_
                simp only [Act.put, List.setIfInBounds_toArray, List.set_cons_zero, List.set_cons_succ]
                refine wpAny_done (by kernel_rfl) ?_ _
                go_wp2_with fail
                go_ret
                exact ⟨rfl, by rw [G2.out]; exact Fz9.out.2.2.1⟩
            · refine op_val (o := ⟨some 35, _, _, _, _, _⟩) (.agg (u8l key).toArray) rfl rfl (run_load_mid _ _ _ 23 _ rfl g2 0 rfl (u8l key) _ (range_blk (Fz1.out.2.1)) Try.underlying23 rfl (by rw [u8l_len, HKY.out.1]; kernel_rfl)) ?_
              simp only [Act.put, List.setIfInBounds_toArray, List.set_cons_zero, List.set_cons_succ]
              refine wpAny_all (rs := [4]) (by kernel_rfl) (by simp) ?_
              intro i hi
              simp only [List.mem_cons, List.not_mem_nil, or_false] at hi
              subst hi
              obtain ⟨z11, hz11⟩ : ∃ V, V = z1.alloc (.cells #[.slice a n c] 24) := ⟨_, rfl⟩
              obtain ⟨gz11, kz11⟩ : ∃ q, z1.heap.size = q := ⟨_, rfl⟩
              have qz11 : Below z1.heap.size z1 z11 := by rw [hz11]; exact (Below.refl _ _).alloc (Nat.le_refl _) _
              have bz11 : Blk z11 gz11 24 #[.slice a n c] := by rw [hz11, ← kz11]; exact Blk.new _ _ _
              have Fz110 := Lib.hid (show Below wr.heap.size wr z11 ∧ Blk z11 g2 23 (u8l key).toArray ∧ Below g2 w z11 from ⟨Fz1.out.1.trans (qz11.mono Fz1.out.1.size), Fz1.out.2.1.below qz11, Fz1.out.2.2.trans (qz11.mono (by have h1 := (Fz1.out.1).size; have h2 := GW.out; omega))⟩)
              have Fz11 := Lib.hid (show Below wr.heap.size wr z11 ∧ Blk z11 g2 23 (u8l key).toArray ∧ Below g2 w z11 ∧ PSl z11 (some ⟨gz11, 0, none⟩) 1 [t] from ⟨Fz110.out.1, Fz110.out.2.1, Fz110.out.2.2, psl_one bz11 (HS.out.below Fz110.out.1) (by have := HN.out; omega)⟩)
              clear qz11 bz11 Fz110
              refine op_valw (o := ⟨some 33, _, _, _, _, _⟩) (.slice (some ⟨gz11, 0, none⟩) 1 1) z11 rfl rfl (by rw [hz11, ← kz11]; kernel_rfl) ?_
              simp only [Act.put, List.setIfInBounds_toArray, List.set_cons_zero, List.set_cons_succ]
              clear hz11 kz11
              refine wpAny_all (rs := [5]) (by kernel_rfl) (by simp) ?_
              intro i hi
              simp only [List.mem_cons, List.not_mem_nil, or_false] at hi
              subst hi
              refine op_call (o := ⟨some 34, _, _, _, _, _⟩) 10 #[.agg (u8l key).toArray, .slice (some ⟨gz11, 0, none⟩) 1 1] rfl rfl (by kernel_rfl) (((code_flat z11 key gz11 1 [t] (t) HKY.out Fz11.out.2.2.2 (by omega) (by simp))).mono fun e z12 ⟨he, qz12⟩ => ⟨.agg (u8l (codeS key t)).toArray, he, ?_⟩)
              simp only [Act.put, List.setIfInBounds_toArray, List.set_cons_zero, List.set_cons_succ]
              have Fz12 := Lib.hid (show Below wr.heap.size wr z12 ∧ Blk z12 g2 23 (u8l key).toArray ∧ Below g2 w z12 ∧ PSl z12 (some ⟨gz11, 0, none⟩) 1 [t] from ⟨Fz11.out.1.trans (qz12.mono Fz11.out.1.size), Fz11.out.2.1.below qz12, Fz11.out.2.2.1.trans (qz12.mono (by have h1 := (Fz11.out.1).size; have h2 := GW.out; omega)), Fz11.out.2.2.2.below qz12⟩)
              clear qz12
              refine wpAny_all (rs := [8]) (by kernel_rfl) (by simp) ?_
              intro i hi
              simp only [List.mem_cons, List.not_mem_nil, or_false] at hi
              subst hi
              refine op_call (o := ⟨some 37, _, _, _, _, _⟩) 11 #[.agg (u8l key).toArray, .slice a n c] rfl rfl (by kernel_rfl) (((refcode_any z12 key _ _ _ t HKY.out (HS.out.below Fz12.out.1) (by have := HN.out; omega))).mono fun e z13 ⟨he, qz13⟩ => ⟨.agg (u8l (codeS key t)).toArray, he, ?_⟩)
              simp only [Act.put, List.setIfInBounds_toArray, List.set_cons_zero, List.set_cons_succ]
              have Fz13 := Lib.hid (show Below wr.heap.size wr z13 ∧ Blk z13 g2 23 (u8l key).toArray ∧ Below g2 w z13 ∧ PSl z13 (some ⟨gz11, 0, none⟩) 1 [t] from ⟨Fz12.out.1.trans (qz13.mono Fz12.out.1.size), Fz12.out.2.1.below qz13, Fz12.out.2.2.1.trans (qz13.mono (by have h1 := (Fz12.out.1).size; have h2 := GW.out; omega)), Fz12.out.2.2.2.below qz13⟩)
              clear qz13
              refine wpAny_take (i := 9) (oi := ⟨some 38, _, _, _, _, _⟩) (v := (.bool true)) rfl (by kernel_rfl) (by kernel_rfl) (by kernel_rfl) (fun _ _ _ h => h) (Or.inl ⟨rfl, fun w => run_eq26 _ _ _ _ _ (codeS key t) (codeS_len _ _) rfl rfl rfl⟩) ?_
              simp only [Act.put, List.setIfInBounds_toArray, List.set_cons_zero, List.set_cons_succ]
              refine wpAny_take (i := 10) (oi := ⟨some 39, _, _, _, _, _⟩) (v := (.bool true)) rfl (by kernel_rfl) (by kernel_rfl) (by kernel_rfl) (fun _ _ _ h => h) (Or.inl ⟨rfl, fun w => by kernel_rfl⟩) ?_
              simp only [Act.put, List.setIfInBounds_toArray, List.set_cons_zero, List.set_cons_succ]
              refine wpAny_take (i := 11) (oi := ⟨some 6, _, _, _, _, _⟩) (v := (.bool true)) rfl (by kernel_rfl) (by kernel_rfl) (by kernel_rfl) (fun _ _ _ h => h) (Or.inl ⟨rfl, fun w => by kernel_rfl⟩) ?_
              simp only [Act.put, List.setIfInBounds_toArray, List.set_cons_zero, List.set_cons_succ]
              refine wpAny_done (by kernel_rfl) ?_ _
              go_wp2_with fail
              go_ret
              exact ⟨rfl, by rw [G2.out]; exact Fz13.out.2.2.1⟩
          · obtain ⟨z14, hz14⟩ : ∃ V, V = z1.alloc (.cells #[.slice a n c] 24) := ⟨_, rfl⟩
            obtain ⟨gz14, kz14⟩ : ∃ q, z1.heap.size = q := ⟨_, rfl⟩
            have qz14 : Below z1.heap.size z1 z14 := by rw [hz14]; exact (Below.refl _ _).alloc (Nat.le_refl _) _
            have bz14 : Blk z14 gz14 24 #[.slice a n c] := by rw [hz14, ← kz14]; exact Blk.new _ _ _
            have Fz140 := Lib.hid (show Below wr.heap.size wr z14 ∧ Blk z14 g2 23 (u8l key).toArray ∧ Below g2 w z14 from ⟨Fz1.out.1.trans (qz14.mono Fz1.out.1.size), Fz1.out.2.1.below qz14, Fz1.out.2.2.trans (qz14.mono (by have h1 := (Fz1.out.1).size; have h2 := GW.out; omega))⟩)
            have Fz14 := Lib.hid (show Below wr.heap.size wr z14 ∧ Blk z14 g2 23 (u8l key).toArray ∧ Below g2 w z14 ∧ PSl z14 (some ⟨gz14, 0, none⟩) 1 [t] from ⟨Fz140.out.1, Fz140.out.2.1, Fz140.out.2.2, psl_one bz14 (HS.out.below Fz140.out.1) (by have := HN.out; omega)⟩)
            clear qz14 bz14 Fz140
            refine op_valw (o := ⟨some 33, _, _, _, _, _⟩) (.slice (some ⟨gz14, 0, none⟩) 1 1) z14 rfl rfl (by rw [hz14, ← kz14]; kernel_rfl) ?_
            simp only [Act.put, List.setIfInBounds_toArray, List.set_cons_zero, List.set_cons_succ]
            clear hz14 kz14
            refine wpAny_all (rs := [2, 6]) (by kernel_rfl) (by simp) ?_
            intro i hi
            simp only [List.mem_cons, List.not_mem_nil, or_false] at hi
            rcases hi with rfl | rfl
            · refine op_val (o := ⟨some 31, _, _, _, _, _⟩) (.agg (u8l key).toArray) rfl rfl (run_load_mid _ _ _ 23 _ rfl g2 0 rfl (u8l key) _ (range_blk (Fz14.out.2.1)) Try.underlying23 rfl (by rw [u8l_len, HKY.out.1]; kernel_rfl)) ?_
              simp only [Act.put, List.setIfInBounds_toArray, List.set_cons_zero, List.set_cons_succ]
              refine wpAny_all (rs := [5, 6]) (by kernel_rfl) (by simp) ?_
              intro i hi
              simp only [List.mem_cons, List.not_mem_nil, or_false] at hi
              rcases hi with rfl | rfl
              · refine op_call (o := ⟨some 34, _, _, _, _, _⟩) 10 #[.agg (u8l key).toArray, .slice (some ⟨gz14, 0, none⟩) 1 1] rfl rfl (by kernel_rfl) (((code_flat z14 key gz14 1 [t] (t) HKY.out Fz14.out.2.2.2 (by omega) (by simp))).mono fun e z16 ⟨he, qz16⟩ => ⟨.agg (u8l (codeS key t)).toArray, he, ?_⟩)
                simp only [Act.put, List.setIfInBounds_toArray, List.set_cons_zero, List.set_cons_succ]
                have Fz16 := Lib.hid (show Below wr.heap.size wr z16 ∧ Blk z16 g2 23 (u8l key).toArray ∧ Below g2 w z16 ∧ PSl z16 (some ⟨gz14, 0, none⟩) 1 [t] from ⟨Fz14.out.1.trans (qz16.mono Fz14.out.1.size), Fz14.out.2.1.below qz16, Fz14.out.2.2.1.trans (qz16.mono (by have h1 := (Fz14.out.1).size; have h2 := GW.out; omega)), Fz14.out.2.2.2.below qz16⟩)
                clear qz16
                refine wpAny_all (rs := [6]) (by kernel_rfl) (by simp) ?_
                intro i hi
                simp only [List.mem_cons, List.not_mem_nil, or_false] at hi
                subst hi
                refine op_val (o := ⟨some 35, _, _, _, _, _⟩) (.agg (u8l key).toArray) rfl rfl (run_load_mid _ _ _ 23 _ rfl g2 0 rfl (u8l key) _ (range_blk (Fz16.out.2.1)) Try.underlying23 rfl (by rw [u8l_len, HKY.out.1]; kernel_rfl)) ?_
                simp only [Act.put, List.setIfInBounds_toArray, List.set_cons_zero, List.set_cons_succ]
                refine wpAny_all (rs := [8]) (by kernel_rfl) (by simp) ?_
                intro i hi
                simp only [List.mem_cons, List.not_mem_nil, or_false] at hi
                subst hi
                refine op_call (o := ⟨some 37, _, _, _, _, _⟩) 11 #[.agg (u8l key).toArray, .slice a n c] rfl rfl (by kernel_rfl) (((refcode_any z16 key _ _ _ t HKY.out (HS.out.below Fz16.out.1) (by have := HN.out; omega))).mono fun e z18 ⟨he, qz18⟩ => ⟨.agg (u8l (codeS key t)).toArray, he, ?_⟩)
                simp only [Act.put, List.setIfInBounds_toArray, List.set_cons_zero, List.set_cons_succ]
                have Fz18 := Lib.hid (show Below wr.heap.size wr z18 ∧ Blk z18 g2 23 (u8l key).toArray ∧ Below g2 w z18 ∧ PSl z18 (some ⟨gz14, 0, none⟩) 1 [t] from ⟨Fz16.out.1.trans (qz18.mono Fz16.out.1.size), Fz16.out.2.1.below qz18, Fz16.out.2.2.1.trans (qz18.mono (by have h1 := (Fz16.out.1).size; have h2 := GW.out; omega)), Fz16.out.2.2.2.below qz18⟩)
                clear qz18
                refine wpAny_take (i := 9) (oi := ⟨some 38, _, _, _, _, _⟩) (v := (.bool true)) rfl (by kernel_rfl) (by kernel_rfl) (by kernel_rfl) (fun _ _ _ h => h) (Or.inl ⟨rfl, fun w => run_eq26 _ _ _ _ _ (codeS key t) (codeS_len _ _) rfl rfl rfl⟩) ?_
                simp only [Act.put, List.setIfInBounds_toArray, List.set_cons_zero, List.set_cons_succ]
                refine wpAny_take (i := 10) (oi := ⟨some 39, _, _, _, _, _⟩) (v := (.bool true)) rfl (by kernel_rfl) (by kernel_rfl) (by kernel_rfl) (fun _ _ _ h => h) (Or.inl ⟨rfl, fun w => by kernel_rfl⟩) ?_
                simp only [Act.put, List.setIfInBounds_toArray, List.set_cons_zero, List.set_cons_succ]
                refine wpAny_take (i := 11) (oi := ⟨some 6, _, _, _, _, _⟩) (v := (.bool true)) rfl (by kernel_rfl) (by kernel_rfl) (by kernel_rfl) (fun _ _ _ h => h) (Or.inl ⟨rfl, fun w => by kernel_rfl⟩) ?_
                simp only [Act.put, List.setIfInBounds_toArray, List.set_cons_zero, List.set_cons_succ]
                refine wpAny_done (by kernel_rfl) ?_ _
                go_wp2_with fail
                go_ret
                exact ⟨rfl, by rw [G2.out]; exact Fz18.out.2.2.1⟩
              · refine op_val (o := ⟨some 35, _, _, _, _, _⟩) (.agg (u8l key).toArray) rfl rfl (run_load_mid _ _ _ 23 _ rfl g2 0 rfl (u8l key) _ (range_blk (Fz14.out.2.1)) Try.underlying23 rfl (by rw [u8l_len, HKY.out.1]; kernel_rfl)) ?_
                simp only [Act.put, List.setIfInBounds_toArray, List.set_cons_zero, List.set_cons_succ]
                refine wpAny_all (rs := [5]) (by kernel_rfl) (by simp) ?_
                intro i hi
                simp only [List.mem_cons, List.not_mem_nil, or_false] at hi
                subst hi
                refine op_call (o := ⟨some 34, _, _, _, _, _⟩) 10 #[.agg (u8l key).toArray, .slice (some ⟨gz14, 0, none⟩) 1 1] rfl rfl (by kernel_rfl) (((code_flat z14 key gz14 1 [t] (t) HKY.out Fz14.out.2.2.2 (by omega) (by simp))).mono fun e z20 ⟨he, qz20⟩ => ⟨.agg (u8l (codeS key t)).toArray, he, ?_⟩)
                simp only [Act.put, List.setIfInBounds_toArray, List.set_cons_zero, List.set_cons_succ]
                have Fz20 := Lib.hid (show Below wr.heap.size wr z20 ∧ Blk z20 g2 23 (u8l key).toArray ∧ Below g2 w z20 ∧ PSl z20 (some ⟨gz14, 0, none⟩) 1 [t] from ⟨Fz14.out.1.trans (qz20.mono Fz14.out.1.size), Fz14.out.2.1.below qz20, Fz14.out.2.2.1.trans (qz20.mono (by have h1 := (Fz14.out.1).size; have h2 := GW.out; omega)), Fz14.out.2.2.2.below qz20⟩)
                clear qz20
                refine wpAny_all (rs := [8]) (by kernel_rfl) (by simp) ?_
                intro i hi
                simp only [List.mem_cons, List.not_mem_nil, or_false] at hi
                subst hi
                refine op_call (o := ⟨some 37, _, _, _, _, _⟩) 11 #[.agg (u8l key).toArray, .slice a n c] rfl rfl (by kernel_rfl) (((refcode_any z20 key _ _ _ t HKY.out (HS.out.below Fz20.out.1) (by have := HN.out; omega))).mono fun e z21 ⟨he, qz21⟩ => ⟨.agg (u8l (codeS key t)).toArray, he, ?_⟩)
                simp only [Act.put, List.setIfInBounds_toArray, List.set_cons_zero, List.set_cons_succ]
                have Fz21 := Lib.hid (show Below wr.heap.size wr z21 ∧ Blk z21 g2 23 (u8l key).toArray ∧ Below g2 w z21 ∧ PSl z21 (some ⟨gz14, 0, none⟩) 1 [t] from ⟨Fz20.out.1.trans (qz21.mono Fz20.out.1.size), Fz20.out.2.1.below qz21, Fz20.out.2.2.1.trans (qz21.mono (by have h1 := (Fz20.out.1).size; have h2 := GW.out; omega)), Fz20.out.2.2.2.below qz21⟩)
                clear qz21
                refine wpAny_take (i := 9) (oi := ⟨some 38, _, _, _, _, _⟩) (v := (.bool true)) rfl (by kernel_rfl) (by kernel_rfl) (by kernel_rfl) (fun _ _ _ h => h) (Or.inl ⟨rfl, fun w => run_eq26 _ _ _ _ _ (codeS key t) (codeS_len _ _) rfl rfl rfl⟩) ?_
                simp only [Act.put, List.setIfInBounds_toArray, List.set_cons_zero, List.set_cons_succ]
                refine wpAny_take (i := 10) (oi := ⟨some 39, _, _, _, _, _⟩) (v := (.bool true)) rfl (by kernel_rfl) (by kernel_rfl) (by kernel_rfl) (fun _ _ _ h => h) (Or.inl ⟨rfl, fun w => by kernel_rfl⟩) ?_
                simp only [Act.put, List.setIfInBounds_toArray, List.set_cons_zero, List.set_cons_succ]
                refine wpAny_take (i := 11) (oi := ⟨some 6, _, _, _, _, _⟩) (v := (.bool true)) rfl (by kernel_rfl) (by kernel_rfl) (by kernel_rfl) (fun _ _ _ h => h) (Or.inl ⟨rfl, fun w => by kernel_rfl⟩) ?_
                simp only [Act.put, List.setIfInBounds_toArray, List.set_cons_zero, List.set_cons_succ]
                refine wpAny_done (by kernel_rfl) ?_ _
                go_wp2_with fail
                go_ret
                exact ⟨rfl, by rw [G2.out]; exact Fz21.out.2.2.1⟩
            · refine op_val (o := ⟨some 35, _, _, _, _, _⟩) (.agg (u8l key).toArray) rfl rfl (run_load_mid _ _ _ 23 _ rfl g2 0 rfl (u8l key) _ (range_blk (Fz14.out.2.1)) Try.underlying23 rfl (by rw [u8l_len, HKY.out.1]; kernel_rfl)) ?_
              simp only [Act.put, List.setIfInBounds_toArray, List.set_cons_zero, List.set_cons_succ]
              refine wpAny_all (rs := [2]) (by kernel_rfl) (by simp) ?_
              intro i hi
              simp only [List.mem_cons, List.not_mem_nil, or_false] at hi
              subst hi
              refine op_val (o := ⟨some 31, _, _, _, _, _⟩) (.agg (u8l key).toArray) rfl rfl (run_load_mid _ _ _ 23 _ rfl g2 0 rfl (u8l key) _ (range_blk (Fz14.out.2.1)) Try.underlying23 rfl (by rw [u8l_len, HKY.out.1]; kernel_rfl)) ?_
              simp only [Act.put, List.setIfInBounds_toArray, List.set_cons_zero, List.set_cons_succ]
              refine wpAny_all (rs := [5]) (by kernel_rfl) (by simp) ?_
              intro i hi
              simp only [List.mem_cons, List.not_mem_nil, or_false] at hi
              subst hi
              refine op_call (o := ⟨some 34, _, _, _, _, _⟩) 10 #[.agg (u8l key).toArray, .slice (some ⟨gz14, 0, none⟩) 1 1] rfl rfl (by kernel_rfl) (((code_flat z14 key gz14 1 [t] (t) HKY.out Fz14.out.2.2.2 (by omega) (by simp))).mono fun e z24 ⟨he, qz24⟩ => ⟨.agg (u8l (codeS key t)).toArray, he, ?_⟩)
              simp only [Act.put, List.setIfInBounds_toArray, List.set_cons_zero, List.set_cons_succ]
              have Fz24 := Lib.hid (show Below wr.heap.size wr z24 ∧ Blk z24 g2 23 (u8l key).toArray ∧ Below g2 w z24 ∧ PSl z24 (some ⟨gz14, 0, none⟩) 1 [t] from ⟨Fz14.out.1.trans (qz24.mono Fz14.out.1.size), Fz14.out.2.1.below qz24, Fz14.out.2.2.1.trans (qz24.mono (by have h1 := (Fz14.out.1).size; have h2 := GW.out; omega)), Fz14.out.2.2.2.below qz24⟩)
              clear qz24
              refine wpAny_all (rs := [8]) (by kernel_rfl) (by simp) ?_
              intro i hi
              simp only [List.mem_cons, List.not_mem_nil, or_false] at hi
              subst hi
              refine op_call (o := ⟨some 37, _, _, _, _, _⟩) 11 #[.agg (u8l key).toArray, .slice a n c] rfl rfl (by kernel_rfl) (((refcode_any z24 key _ _ _ t HKY.out (HS.out.below Fz24.out.1) (by have := HN.out; omega))).mono fun e z25 ⟨he, qz25⟩ => ⟨.agg (u8l (codeS key t)).toArray, he, ?_⟩)
              simp only [Act.put, List.setIfInBounds_toArray, List.set_cons_zero, List.set_cons_succ]
              have Fz25 := Lib.hid (show Below wr.heap.size wr z25 ∧ Blk z25 g2 23 (u8l key).toArray ∧ Below g2 w z25 ∧ PSl z25 (some ⟨gz14, 0, none⟩) 1 [t] from ⟨Fz24.out.1.trans (qz25.mono Fz24.out.1.size), Fz24.out.2.1.below qz25, Fz24.out.2.2.1.trans (qz25.mono (by have h1 := (Fz24.out.1).size; have h2 := GW.out; omega)), Fz24.out.2.2.2.below qz25⟩)
              clear qz25
              refine wpAny_take (i := 9) (oi := ⟨some 38, _, _, _, _, _⟩) (v := (.bool true)) rfl (by kernel_rfl) (by kernel_rfl) (by kernel_rfl) (fun _ _ _ h => h) (Or.inl ⟨rfl, fun w => run_eq26 _ _ _ _ _ (codeS key t) (codeS_len _ _) rfl rfl rfl⟩) ?_
              simp only [Act.put, List.setIfInBounds_toArray, List.set_cons_zero, List.set_cons_succ]
              refine wpAny_take (i := 10) (oi := ⟨some 39, _, _, _, _, _⟩) (v := (.bool true)) rfl (by kernel_rfl) (by kernel_rfl) (by kernel_rfl) (fun _ _ _ h => h) (Or.inl ⟨rfl, fun w => by kernel_rfl⟩) ?_
              simp only [Act.put, List.setIfInBounds_toArray, List.set_cons_zero, List.set_cons_succ]
              refine wpAny_take (i := 11) (oi := ⟨some 6, _, _, _, _, _⟩) (v := (.bool true)) rfl (by kernel_rfl) (by kernel_rfl) (by kernel_rfl) (fun _ _ _ h => h) (Or.inl ⟨rfl, fun w => by kernel_rfl⟩) ?_
              simp only [Act.put, List.setIfInBounds_toArray, List.set_cons_zero, List.set_cons_succ]
              refine wpAny_done (by kernel_rfl) ?_ _
              go_wp2_with fail
              go_ret
              exact ⟨rfl, by rw [G2.out]; exact Fz25.out.2.2.1⟩
          · refine op_val (o := ⟨some 35, _, _, _, _, _⟩) (.agg (u8l key).toArray) rfl rfl (run_load_mid _ _ _ 23 _ rfl g2 0 rfl (u8l key) _ (range_blk (Fz1.out.2.1)) Try.underlying23 rfl (by rw [u8l_len, HKY.out.1]; kernel_rfl)) ?_
            simp only [Act.put, List.setIfInBounds_toArray, List.set_cons_zero, List.set_cons_succ]
            refine wpAny_all (rs := [2, 4]) (by kernel_rfl) (by simp) ?_
            intro i hi
            simp only [List.mem_cons, List.not_mem_nil, or_false] at hi
            rcases hi with rfl | rfl
            · refine op_val (o := ⟨some 31, _, _, _, _, _⟩) (.agg (u8l key).toArray) rfl rfl (run_load_mid _ _ _ 23 _ rfl g2 0 rfl (u8l key) _ (range_blk (Fz1.out.2.1)) Try.underlying23 rfl (by rw [u8l_len, HKY.out.1]; kernel_rfl)) ?_
              simp only [Act.put, List.setIfInBounds_toArray, List.set_cons_zero, List.set_cons_succ]
              refine wpAny_all (rs := [4]) (by kernel_rfl) (by simp) ?_
              intro i hi
              simp only [List.mem_cons, List.not_mem_nil, or_false] at hi
              subst hi
              obtain ⟨z28, hz28⟩ : ∃ V, V = z1.alloc (.cells #[.slice a n c] 24) := ⟨_, rfl⟩
              obtain ⟨gz28, kz28⟩ : ∃ q, z1.heap.size = q := ⟨_, rfl⟩
              have qz28 : Below z1.heap.size z1 z28 := by rw [hz28]; exact (Below.refl _ _).alloc (Nat.le_refl _) _
              have bz28 : Blk z28 gz28 24 #[.slice a n c] := by rw [hz28, ← kz28]; exact Blk.new _ _ _
              have Fz280 := Lib.hid (show Below wr.heap.size wr z28 ∧ Blk z28 g2 23 (u8l key).toArray ∧ Below g2 w z28 from ⟨Fz1.out.1.trans (qz28.mono Fz1.out.1.size), Fz1.out.2.1.below qz28, Fz1.out.2.2.trans (qz28.mono (by have h1 := (Fz1.out.1).size; have h2 := GW.out; omega))⟩)
              have Fz28 := Lib.hid (show Below wr.heap.size wr z28 ∧ Blk z28 g2 23 (u8l key).toArray ∧ Below g2 w z28 ∧ PSl z28 (some ⟨gz28, 0, none⟩) 1 [t] from ⟨Fz280.out.1, Fz280.out.2.1, Fz280.out.2.2, psl_one bz28 (HS.out.below Fz280.out.1) (by have := HN.out; omega)⟩)
              clear qz28 bz28 Fz280
              refine op_valw (o := ⟨some 33, _, _, _, _, _⟩) (.slice (some ⟨gz28, 0, none⟩) 1 1) z28 rfl rfl (by rw [hz28, ← kz28]; kernel_rfl) ?_
              simp only [Act.put, List.setIfInBounds_toArray, List.set_cons_zero, List.set_cons_succ]
              clear hz28 kz28
              refine wpAny_all (rs := [5]) (by kernel_rfl) (by simp) ?_
              intro i hi
              simp only [List.mem_cons, List.not_mem_nil, or_false] at hi
              subst hi
              refine op_call (o := ⟨some 34, _, _, _, _, _⟩) 10 #[.agg (u8l key).toArray, .slice (some ⟨gz28, 0, none⟩) 1 1] rfl rfl (by kernel_rfl) (((code_flat z28 key gz28 1 [t] (t) HKY.out Fz28.out.2.2.2 (by omega) (by simp))).mono fun e z29 ⟨he, qz29⟩ => ⟨.agg (u8l (codeS key t)).toArray, he, ?_⟩)
              simp only [Act.put, List.setIfInBounds_toArray, List.set_cons_zero, List.set_cons_succ]
              have Fz29 := Lib.hid (show Below wr.heap.size wr z29 ∧ Blk z29 g2 23 (u8l key).toArray ∧ Below g2 w z29 ∧ PSl z29 (some ⟨gz28, 0, none⟩) 1 [t] from ⟨Fz28.out.1.trans (qz29.mono Fz28.out.1.size), Fz28.out.2.1.below qz29, Fz28.out.2.2.1.trans (qz29.mono (by have h1 := (Fz28.out.1).size; have h2 := GW.out; omega)), Fz28.out.2.2.2.below qz29⟩)
              clear qz29
              refine wpAny_all (rs := [8]) (by kernel_rfl) (by simp) ?_
              intro i hi
              simp only [List.mem_cons, List.not_mem_nil, or_false] at hi
              subst hi
              refine op_call (o := ⟨some 37, _, _, _, _, _⟩) 11 #[.agg (u8l key).toArray, .slice a n c] rfl rfl (by kernel_rfl) (((refcode_any z29 key _ _ _ t HKY.out (HS.out.below Fz29.out.1) (by have := HN.out; omega))).mono fun e z30 ⟨he, qz30⟩ => ⟨.agg (u8l (codeS key t)).toArray, he, ?_⟩)
              simp only [Act.put, List.setIfInBounds_toArray, List.set_cons_zero, List.set_cons_succ]
              have Fz30 := Lib.hid (show Below wr.heap.size wr z30 ∧ Blk z30 g2 23 (u8l key).toArray ∧ Below g2 w z30 ∧ PSl z30 (some ⟨gz28, 0, none⟩) 1 [t] from ⟨Fz29.out.1.trans (qz30.mono Fz29.out.1.size), Fz29.out.2.1.below qz30, Fz29.out.2.2.1.trans (qz30.mono (by have h1 := (Fz29.out.1).size; have h2 := GW.out; omega)), Fz29.out.2.2.2.below qz30⟩)
              clear qz30
              refine wpAny_take (i := 9) (oi := ⟨some 38, _, _, _, _, _⟩) (v := (.bool true)) rfl (by kernel_rfl) (by kernel_rfl) (by kernel_rfl) (fun _ _ _ h => h) (Or.inl ⟨rfl, fun w => run_eq26 _ _ _ _ _ (codeS key t) (codeS_len _ _) rfl rfl rfl⟩) ?_
              simp only [Act.put, List.setIfInBounds_toArray, List.set_cons_zero, List.set_cons_succ]
              refine wpAny_take (i := 10) (oi := ⟨some 39, _, _, _, _, _⟩) (v := (.bool true)) rfl (by kernel_rfl) (by kernel_rfl) (by kernel_rfl) (fun _ _ _ h => h) (Or.inl ⟨rfl, fun w => by kernel_rfl⟩) ?_
              simp only [Act.put, List.setIfInBounds_toArray, List.set_cons_zero, List.set_cons_succ]
              refine wpAny_take (i := 11) (oi := ⟨some 6, _, _, _, _, _⟩) (v := (.bool true)) rfl (by kernel_rfl) (by kernel_rfl) (by kernel_rfl) (fun _ _ _ h => h) (Or.inl ⟨rfl, fun w => by kernel_rfl⟩) ?_
              simp only [Act.put, List.setIfInBounds_toArray, List.set_cons_zero, List.set_cons_succ]
              refine wpAny_done (by kernel_rfl) ?_ _
              go_wp2_with fail
              go_ret
              exact ⟨rfl, by rw [G2.out]; exact Fz30.out.2.2.1⟩
            · obtain ⟨z31, hz31⟩ : ∃ V, V = z1.alloc (.cells #[.slice a n c] 24) := ⟨_, rfl⟩
              obtain ⟨gz31, kz31⟩ : ∃ q, z1.heap.size = q := ⟨_, rfl⟩
              have qz31 : Below z1.heap.size z1 z31 := by rw [hz31]; exact (Below.refl _ _).alloc (Nat.le_refl _) _
              have bz31 : Blk z31 gz31 24 #[.slice a n c] := by rw [hz31, ← kz31]; exact Blk.new _ _ _
              have Fz310 := Lib.hid (show Below wr.heap.size wr z31 ∧ Blk z31 g2 23 (u8l key).toArray ∧ Below g2 w z31 from ⟨Fz1.out.1.trans (qz31.mono Fz1.out.1.size), Fz1.out.2.1.below qz31, Fz1.out.2.2.trans (qz31.mono (by have h1 := (Fz1.out.1).size; have h2 := GW.out; omega))⟩)
              have Fz31 := Lib.hid (show Below wr.heap.size wr z31 ∧ Blk z31 g2 23 (u8l key).toArray ∧ Below g2 w z31 ∧ PSl z31 (some ⟨gz31, 0, none⟩) 1 [t] from ⟨Fz310.out.1, Fz310.out.2.1, Fz310.out.2.2, psl_one bz31 (HS.out.below Fz310.out.1) (by have := HN.out; omega)⟩)
              clear qz31 bz31 Fz310
              refine op_valw (o := ⟨some 33, _, _, _, _, _⟩) (.slice (some ⟨gz31, 0, none⟩) 1 1) z31 rfl rfl (by rw [hz31, ← kz31]; kernel_rfl) ?_
              simp only [Act.put, List.setIfInBounds_toArray, List.set_cons_zero, List.set_cons_succ]
              clear hz31 kz31
              refine wpAny_all (rs := [2]) (by kernel_rfl) (by simp) ?_
              intro i hi
              simp only [List.mem_cons, List.not_mem_nil, or_false] at hi
              subst hi
              refine op_val (o := ⟨some 31, _, _, _, _, _⟩) (.agg (u8l key).toArray) rfl rfl (run_load_mid _ _ _ 23 _ rfl g2 0 rfl (u8l key) _ (range_blk (Fz31.out.2.1)) Try.underlying23 rfl (by rw [u8l_len, HKY.out.1]; kernel_rfl)) ?_
              simp only [Act.put, List.setIfInBounds_toArray, List.set_cons_zero, List.set_cons_succ]
              refine wpAny_all (rs := [5]) (by kernel_rfl) (by simp) ?_
              intro i hi
              simp only [List.mem_cons, List.not_mem_nil, or_false] at hi
              subst hi
              refine op_call (o := ⟨some 34, _, _, _, _, _⟩) 10 #[.agg (u8l key).toArray, .slice (some ⟨gz31, 0, none⟩) 1 1] rfl rfl (by kernel_rfl) (((code_flat z31 key gz31 1 [t] (t) HKY.out Fz31.out.2.2.2 (by omega) (by simp))).mono fun e z33 ⟨he, qz33⟩ => ⟨.agg (u8l (codeS key t)).toArray, he, ?_⟩)
              simp only [Act.put, List.setIfInBounds_toArray, List.set_cons_zero, List.set_cons_succ]
              have Fz33 := Lib.hid (show Below wr.heap.size wr z33 ∧ Blk z33 g2 23 (u8l key).toArray ∧ Below g2 w z33 ∧ PSl z33 (some ⟨gz31, 0, none⟩) 1 [t] from ⟨Fz31.out.1.trans (qz33.mono Fz31.out.1.size), Fz31.out.2.1.below qz33, Fz31.out.2.2.1.trans (qz33.mono (by have h1 := (Fz31.out.1).size; have h2 := GW.out; omega)), Fz31.out.2.2.2.below qz33⟩)
              clear qz33
              refine wpAny_all (rs := [8]) (by kernel_rfl) (by simp) ?_
              intro i hi
              simp only [List.mem_cons, List.not_mem_nil, or_false] at hi
              subst hi
              refine op_call (o := ⟨some 37, _, _, _, _, _⟩) 11 #[.agg (u8l key).toArray, .slice a n c] rfl rfl (by kernel_rfl) (((refcode_any z33 key _ _ _ t HKY.out (HS.out.below Fz33.out.1) (by have := HN.out; omega))).mono fun e z34 ⟨he, qz34⟩ => ⟨.agg (u8l (codeS key t)).toArray, he, ?_⟩)
              simp only [Act.put, List.setIfInBounds_toArray, List.set_cons_zero, List.set_cons_succ]
              have Fz34 := Lib.hid (show Below wr.heap.size wr z34 ∧ Blk z34 g2 23 (u8l key).toArray ∧ Below g2 w z34 ∧ PSl z34 (some ⟨gz31, 0, none⟩) 1 [t] from ⟨Fz33.out.1.trans (qz34.mono Fz33.out.1.size), Fz33.out.2.1.below qz34, Fz33.out.2.2.1.trans (qz34.mono (by have h1 := (Fz33.out.1).size; have h2 := GW.out; omega)), Fz33.out.2.2.2.below qz34⟩)
              clear qz34
              refine wpAny_take (i := 9) (oi := ⟨some 38, _, _, _, _, _⟩) (v := (.bool true)) rfl (by kernel_rfl) (by kernel_rfl) (by kernel_rfl) (fun _ _ _ h => h) (Or.inl ⟨rfl, fun w => run_eq26 _ _ _ _ _ (codeS key t) (codeS_len _ _) rfl rfl rfl⟩) ?_
              simp only [Act.put, List.setIfInBounds_toArray, List.set_cons_zero, List.set_cons_succ]
              refine wpAny_take (i := 10) (oi := ⟨some 39, _, _, _, _, _⟩) (v := (.bool true)) rfl (by kernel_rfl) (by kernel_rfl) (by kernel_rfl) (fun _ _ _ h => h) (Or.inl ⟨rfl, fun w => by kernel_rfl⟩) ?_
              simp only [Act.put, List.setIfInBounds_toArray, List.set_cons_zero, List.set_cons_succ]
              refine wpAny_take (i := 11) (oi := ⟨some 6, _, _, _, _, _⟩) (v := (.bool true)) rfl (by kernel_rfl) (by kernel_rfl) (by kernel_rfl) (fun _ _ _ h => h) (Or.inl ⟨rfl, fun w => by kernel_rfl⟩) ?_
              simp only [Act.put, List.setIfInBounds_toArray, List.set_cons_zero, List.set_cons_succ]
              refine wpAny_done (by kernel_rfl) ?_ _
              go_wp2_with fail
              go_ret
              exact ⟨rfl, by rw [G2.out]; exact Fz34.out.2.2.1⟩
end Go.Proofs.Ytbgmielhnklkgaa
