import Derived.Test.YtbgmielhnklkgaaP15
import Derived.Laws.IdiomCopy
namespace Go.Proofs.Ytbgmielhnklkgaa
open Go.RowKit

def slen : Value → Nat
  | .slice _ n _ => n
  | _ => 0
theorem run_slice16' (a : Act) (o : Oper) (w : World) (x i : Operand) (b r : Nat) (ho : o.op = .slice 26 x (some i) none none) (hx : a.eval x = .pointer (some ⟨b, 5, none⟩)) (hi : a.eval i = .int .i64 (r : Int)) (hr : r < 16) :
    (execOp a.eval o).run Try.prog w = .ok (.value (.slice (some ⟨b, 5 + r, none⟩) (16 - r) (16 - r))) w := by
  have h := run_slice16 a o w x i b r ho hx hi (by omega)
  rw [if_pos hr] at h
  exact h
theorem run_gtr0 (a : Act) (o : Oper) (w : World) (x : Operand) (n : Nat) (ho : o.op = .binOp .gtr 3 x (.const (.int .i64 0)) 3) (hx : a.eval x = .int .i64 (n : Int)) (hn : 0 < n) : (execOp a.eval o).run Try.prog w = .ok (.value (.bool true)) w := by
  have hc : a.eval (.const (.int .i64 0)) = .int .i64 0 := rfl
  have h1 : (0 : Int) < (n : Int) := by omega
  unfold execOp
  simp only [ho, hx, hc]
  go_simp
theorem run_cpy (a : Act) (o : Oper) (w w' : World) (x y : Operand) (v u : Value) (r : Value) (ho : o.op = .call { callee := .builtin .copy, args := #[x, y], argTypes := #[24, 24] }) (ht : o.type = 3) (hx : a.eval x = v) (hy : a.eval y = u)
    (h : (Builtin.copy_ #[24, 24] 3 #[v, u]).run Try.prog w = .ok r w') : (execOp a.eval o).run Try.prog w = .ok (.value r) w' := by
  unfold execOp
  simp only [ho, resolve, invoke, builtin, Sem.run_bind, Sem.run_pure, Result.andThen_ok, List.map_toArray, List.map_cons, List.map_nil, hx, hy, ht, h]
theorem copy_src {w X : World} {g o n : Nat} {vs : List Nat} (i m : Nat) (hl : vs.length = n) (hc : ∀ j, j < n → w.cell? ⟨g, o + j, none⟩ = some (.int .u8 ((vs.getD j 0 : Nat) : Int))) (hX : ∀ j, j < n → X.cell? ⟨g, o + j, none⟩ = w.cell? ⟨g, o + j, none⟩) :
    ∀ j v, (((vs.drop i).take m).map fun (v : Nat) => Value.int .u8 (v : Int))[j]? = some v → X.cell? ((⟨g, o + i, none⟩ : Addr).add j) = some v := by
  intro j v hv
  rw [List.getElem?_map, List.getElem?_take] at hv
  split at hv
  · rw [List.getElem?_drop] at hv
    have hlt : i + j < vs.length := by
      rcases Nat.lt_or_ge (i + j) vs.length with h | h
      · exact h
      · rw [List.getElem?_eq_none h] at hv; cases hv
    rw [Addr.add_lit, Nat.add_assoc, hX _ (by omega), hc _ (by omega), ← hv, List.getD, List.getElem?_eq_getElem hlt]
    rfl
  · cases hv
theorem run_addn (a : Act) (o : Oper) (w : World) (x y : Operand) (p q : Nat) (ho : o.op = .binOp .add 3 x y 3) (hx : a.eval x = .int .i64 (p : Int)) (hy : a.eval y = .int .i64 (q : Int)) (hk : p + q < 1000) : (execOp a.eval o).run Try.prog w = .ok (.value (.int .i64 ((p + q : Nat) : Int))) w := by
  unfold execOp
  simp only [ho, hx, hy]
  go_simp
  all_goals (first | done | exact IntWalk.i64_in _ (by omega) | (rw [IntKind.wrap_i64]; omega) | omega)
theorem run_eql16 (a : Act) (o : Oper) (w : World) (x : Operand) (k : Nat) (b : Bool) (ho : o.op = .binOp .eql 3 x (.const (.int .i64 16)) 3) (hx : a.eval x = .int .i64 (k : Int)) (hb : decide (k = 16) = b) : (execOp a.eval o).run Try.prog w = .ok (.value (.bool b)) w := by
  have hc : a.eval (.const (.int .i64 16)) = .int .i64 16 := rfl
  have e : ((k : Int) == 16) = b := by rw [← hb, Bool.eq_iff_iff, beq_iff_eq, decide_eq_true_eq]; omega
  unfold execOp
  simp only [ho, hx, hc]
  go_simp
  try exact e
theorem run_slicep (a : Act) (o : Oper) (w : World) (x i : Operand) (g off len cap m L : Nat) (ho : o.op = .slice 24 x (some i) none none) (hx : a.eval x = .slice (some ⟨g, off, none⟩) len cap) (hi : a.eval i = .int .i64 (m : Int)) (hm : m ≤ len) (hc : len ≤ cap) (hl : len ≤ 300) (hL : L = len - m) :
    (execOp a.eval o).run Try.prog w = .ok (.value (.slice (some ⟨g, off + (if cap = m then 0 else m), none⟩) L (cap - m))) w := by
  subst hL
  have h1 : (0 : Int) ≤ (m : Int) := by omega
  have h2 : (m : Int) ≤ (len : Int) := by omega
  have h3 : (len : Int) ≤ (cap : Int) := by omega
  have h4 : (m : Int) ≤ (cap : Int) := by omega
  unfold execOp
  simp only [ho, hx, Option.map_some, Option.map_none, hi]
  by_cases hq : cap = m
  · subst hq
    go_simp
  · go_simp
set_option maxHeartbeats 1000000 in
theorem write_any (w : World) (b g o n c hl0 : Nat) (K0 : Nat → Nat) (vs : List Nat) (hK : ∀ j, K0 j < 256) (h16 : hl0 < 16) (hb : Blk w b 40 (sumc 0 0 0 (rest16 K0) (hl0 : Int)).toArray) (hg : g ≠ b) (hn : n ≤ 300) (hc : n ≤ c) (hlen : vs.length = n) (hv : ∀ v ∈ vs, v < 256)
    (hcell : ∀ j, j < n → w.cell? ⟨g, o + j, none⟩ = some (.int .u8 ((vs.getD j 0 : Nat) : Int))) :
    Calls Try.prog 15 #[.pointer (some ⟨b, 0, none⟩), .slice (some ⟨g, o, none⟩) n c] w fun e w' => e = .returned (.tuple #[]) ∧ w.grownBy w' (some b) ∧ ∃ K hl, (∀ j, K j < 256) ∧ hl < 16 ∧ Blk w' b 40 (sumc 0 0 0 (rest16 K) ((hl : Nat) : Int)).toArray := by
  have HV : Hid (∀ v ∈ vs, v < 256) := Lib.hid hv
  have HC : Hid (∀ j, j < n → w.cell? ⟨g, o + j, none⟩ = some (.int .u8 ((vs.getD j 0 : Nat) : Int))) := Lib.hid hcell
  have HN : Hid (n ≤ 300) := Lib.hid hn
  have HLEN : Hid (vs.length = n) := Lib.hid hlen
  have NG : Hid (g ≠ b) := Lib.hid hg
  have ST : Hid ((∀ j, K0 j < 256) ∧ hl0 < 16 ∧ S23 b w 0 0 0 (rest16 K0) (hl0 : Int) w) := Lib.hid ⟨hK, h16, gb_refl _ _, hb⟩
  have CC : Hid (n ≤ c) := Lib.hid hc
  clear hv hcell hn hlen hg hK h16 hb hc
  go_enter Try.func15, Try.ntmps15
  go_wp2_with fail
  go_loopw [1] (fun s1 wr => ∃ (i off c' : Nat), s1 = .slice (some ⟨g, off, none⟩) (n - i) c' ∧ Hid (i ≤ n ∧ (i < n → off = o + i) ∧ n - i ≤ c' ∧ ∃ K hl, (∀ j, K j < 256) ∧ hl < 16 ∧ S23 b w 0 0 0 (rest16 K) ((hl : Nat) : Int) wr)) (fun s1 _ => slen s1)
  case atStart => exact ⟨0, o, c, rfl, Lib.hid ⟨by omega, fun _ => rfl, CC.out, K0, hl0, ST.out⟩⟩
  case round =>
    obtain ⟨i, off, c', rfl, RI⟩ := hrel
    by_cases hlt : i < n
    · obtain ⟨_, ho', hcc, K, hl, hK, hh, hS⟩ := RI.out
      obtain rfl := ho' hlt
      have HI : Hid (0 < n - i) := Lib.hid (by omega)
      have HH : Hid (hl < 16) := Lib.hid hh
      have HK := Lib.hid hK
      have HS := Lib.hid hS
      have HCC := Lib.hid hcc
      clear RI ho' hcc hK hh hS hlt
      go_upto_region 0 with (fail)
      refine wp_region_lit ?_
      refine wpL_pure (.slice (some ⟨g, o + i, none⟩) (n - i) c') rfl (by kernel_rfl) ?_
      simp only [Act.put, List.setIfInBounds_toArray, List.set_cons_zero, List.set_cons_succ]
      refine wpL_pure (.int .i64 ((n - i : Nat) : Int)) rfl (by kernel_rfl) ?_
      simp only [Act.put, List.setIfInBounds_toArray, List.set_cons_zero, List.set_cons_succ]
      refine wpL_pure (.bool true) rfl (run_gtr0 _ _ _ _ (n - i) rfl rfl HI.out) ?_
      simp only [Act.put, List.setIfInBounds_toArray, List.set_cons_zero, List.set_cons_succ]
      go_upto_region 1 with (fail)
      refine region_held (S23 b w 0 0 0 (rest16 K) (hl : Int)) 9 (by kernel_rfl) (by kernel_rfl) (by exact ⟨gb_drew HS.out.1, HS.out.2⟩) ?_
      simp only [List.take_succ_cons, List.take_zero, List.drop_succ_cons, List.drop_zero]
      refine wpHeld_cons (.pointer (some ⟨b, 0, none⟩)) rfl (fun w h => heldRun_value (by kernel_rfl) h) ?_
      simp only [Act.put, List.setIfInBounds_toArray, List.set_cons_zero, List.set_cons_succ]
      refine wpHeld_cons (.pointer (some ⟨b, 0, none⟩)) rfl (fun w h => heldRun_value (by kernel_rfl) h) ?_
      simp only [Act.put, List.setIfInBounds_toArray, List.set_cons_zero, List.set_cons_succ]
      refine wpHeld_cons (.pointer (some ⟨b, 5, none⟩)) rfl (fun w h => heldRun_value (by kernel_rfl) h) ?_
      simp only [Act.put, List.setIfInBounds_toArray, List.set_cons_zero, List.set_cons_succ]
      refine wpHeld_cons (.pointer (some ⟨b, 0, none⟩)) rfl (fun w h => heldRun_value (by kernel_rfl) h) ?_
      simp only [Act.put, List.setIfInBounds_toArray, List.set_cons_zero, List.set_cons_succ]
      refine wpHeld_cons (.pointer (some ⟨b, 0, none⟩)) rfl (fun w h => heldRun_value (by kernel_rfl) h) ?_
      simp only [Act.put, List.setIfInBounds_toArray, List.set_cons_zero, List.set_cons_succ]
      refine wpHeld_cons (.pointer (some ⟨b, 21, none⟩)) rfl (fun w h => heldRun_value (by kernel_rfl) h) ?_
      simp only [Act.put, List.setIfInBounds_toArray, List.set_cons_zero, List.set_cons_succ]
      refine wpHeld_cons (.int .i64 (hl : Int)) rfl (fun w h => heldRun_value (run_load_one _ _ _ 3 _ _ rfl b 21 rfl (sum_c21 (by simp [rest16]) h.2) (by kernel_rfl)) h) ?_
      simp only [Act.put, List.setIfInBounds_toArray, List.set_cons_zero, List.set_cons_succ]
      refine wpHeld_cons (.slice (some ⟨b, 5 + hl, none⟩) (16 - hl) (16 - hl)) rfl (fun w h => heldRun_value (run_slice16' _ _ _ _ _ b hl rfl rfl rfl HH.out) h) ?_
      simp only [Act.put, List.setIfInBounds_toArray, List.set_cons_zero, List.set_cons_succ]
      refine wpHeld_cons (.slice (some ⟨g, o + i, none⟩) (n - i) c') rfl (fun w h => heldRun_value (by kernel_rfl) h) ?_
      simp only [Act.put, List.setIfInBounds_toArray, List.set_cons_zero, List.set_cons_succ]
      refine wpHeld_nil ?_
      intro X h
      obtain ⟨m, hm⟩ : ∃ m, min (n - i) (16 - hl) = m := ⟨_, rfl⟩
      have HM : Hid (m ≤ n - i ∧ m ≤ 16 - hl ∧ 0 < m ∧ (m = n - i ∨ m = 16 - hl)) := Lib.hid (by have := HI.out; have := HH.out; omega)
      have CL : ((vs.drop i).take m).length = m := by rw [List.length_take, List.length_drop, HLEN.out]; have := HM.out; omega
      obtain ⟨K', hK', hg', hb'⟩ := sum_cells ((vs.drop i).take m) hl X K HK.out (fun v hv => HV.out v (List.mem_of_mem_drop (List.mem_of_mem_take hv))) (by rw [CL]; have := HM.out; have := HH.out; omega) h.1 h.2
      have CP := Lib.hid (run_copy_cells (P := Try.prog) X 24 24 3 5 b (5 + hl) (16 - hl) (16 - hl) ⟨g, o + i, none⟩ (n - i) c' (((vs.drop i).take m).map fun (v : Nat) => Value.int .u8 (v : Int)) Try.underlying24 (by kernel_rfl) (by rw [List.length_map, CL, ← hm]) (copy_src i m HLEN.out HC.out (fun j hj => (World.cell?_of_block (h.1.block g (World.block_lt_of_cell? w _ (HC.out j hj)) (by have := NG.out; simpa using this)))))
        (fun j hj => by rw [List.length_map, CL] at hj; rw [Nat.add_assoc, sum_rest h.2 (hl + j) (by have := HM.out; have := HH.out; omega)]; rfl) (fun j _ => h.2.free _) (by intro v hv; obtain ⟨x, _, rfl⟩ := List.mem_map.1 hv; rfl))
      rw [List.length_map, CL] at CP
      obtain ⟨Y, hY⟩ : ∃ Y, Y = X.setCells b (5 + hl) (((vs.drop i).take m).map fun (v : Nat) => Value.int .u8 (v : Int)) := ⟨_, rfl⟩
      rw [← hY] at hg' hb' CP
      have HS' : Hid (S23 b w 0 0 0 (rest16 K') (hl : Int) Y) := Lib.hid ⟨hg', hb'⟩
      have HKK := Lib.hid hK'
      clear hY hg' hb' hK' h HS HK CL hm
      refine wpL_value (.int .i64 ((m : Nat) : Int)) Y rfl (run_cpy _ _ _ _ _ _ _ _ _ rfl rfl rfl rfl CP.out) ?_
      simp only [Act.put, List.setIfInBounds_toArray, List.set_cons_zero, List.set_cons_succ]
      refine wpL_pure (.int .i64 ((m : Nat) : Int)) rfl (by kernel_rfl) ?_
      simp only [Act.put, List.setIfInBounds_toArray, List.set_cons_zero, List.set_cons_succ]
      go_upto_region 2 with (fail)
      refine wp_region_lit ?_
      refine wpL_pure (.pointer (some ⟨b, 0, none⟩)) rfl (by kernel_rfl) ?_
      simp only [Act.put, List.setIfInBounds_toArray, List.set_cons_zero, List.set_cons_succ]
      refine wpL_pure (.pointer (some ⟨b, 0, none⟩)) rfl (by kernel_rfl) ?_
      simp only [Act.put, List.setIfInBounds_toArray, List.set_cons_zero, List.set_cons_succ]
      refine wpL_pure (.pointer (some ⟨b, 21, none⟩)) rfl (by kernel_rfl) ?_
      simp only [Act.put, List.setIfInBounds_toArray, List.set_cons_zero, List.set_cons_succ]
      refine wpL_pure (.int .i64 (hl : Int)) rfl (run_load_one _ _ _ 3 _ _ rfl b 21 rfl (sum_c21 (by simp [rest16]) HS'.out.2) (by kernel_rfl)) ?_
      simp only [Act.put, List.setIfInBounds_toArray, List.set_cons_zero, List.set_cons_succ]
      refine wpL_pure (.int .i64 ((m : Nat) : Int)) rfl (by kernel_rfl) ?_
      simp only [Act.put, List.setIfInBounds_toArray, List.set_cons_zero, List.set_cons_succ]
      refine wpL_pure (.int .i64 ((hl + m : Nat) : Int)) rfl (run_addn _ _ _ _ _ hl m rfl rfl rfl (by have := HM.out; have := HH.out; omega)) ?_
      simp only [Act.put, List.setIfInBounds_toArray, List.set_cons_zero, List.set_cons_succ]
      refine wpL_pure (.pointer (some ⟨b, 0, none⟩)) rfl (by kernel_rfl) ?_
      simp only [Act.put, List.setIfInBounds_toArray, List.set_cons_zero, List.set_cons_succ]
      refine wpL_pure (.pointer (some ⟨b, 21, none⟩)) rfl (by kernel_rfl) ?_
      simp only [Act.put, List.setIfInBounds_toArray, List.set_cons_zero, List.set_cons_succ]
      refine wpL_store_one rfl rfl b 21 rfl .i64 ((hl + m : Nat) : Int) rfl size3 (by rw [sum_c21 (by simp [rest16]) HS'.out.2]; rfl) (HS'.out.2.free _) ?_
      simp only [Act.put, List.setIfInBounds_toArray, List.set_cons_zero, List.set_cons_succ]
      obtain ⟨Z, hZ⟩ : ∃ Z, Z = Y.setCell ⟨b, 21, none⟩ (.int .i64 ((hl + m : Nat) : Int)) := ⟨_, rfl⟩
      rw [← hZ]
      have HZ : Hid (S23 b w 0 0 0 (rest16 K') ((hl + m : Nat) : Int) Z) := Lib.hid (by rw [hZ]; exact ⟨gb_set HS'.out.1 _ _, sum_s21 (by simp [rest16]) HS'.out.2 _⟩)
      clear hZ HS' CP
      go_upto_region 3 with (fail)
      refine wp_region_lit ?_
      refine wpL_pure (.slice (some ⟨g, o + i, none⟩) (n - i) c') rfl (by kernel_rfl) ?_
      simp only [Act.put, List.setIfInBounds_toArray, List.set_cons_zero, List.set_cons_succ]
      refine wpL_pure (.int .i64 ((m : Nat) : Int)) rfl (by kernel_rfl) ?_
      simp only [Act.put, List.setIfInBounds_toArray, List.set_cons_zero, List.set_cons_succ]
      refine wpL_pure (.slice (some ⟨g, o + i + (if c' = m then 0 else m), none⟩) (n - (i + m)) (c' - m)) rfl (run_slicep _ _ _ _ _ g (o + i) (n - i) c' m _ rfl rfl rfl HM.out.1 HCC.out (by have := HN.out; omega) (by omega)) ?_
      simp only [Act.put, List.setIfInBounds_toArray, List.set_cons_zero, List.set_cons_succ]
      refine wpL_pure (.slice (some ⟨g, o + i + (if c' = m then 0 else m), none⟩) (n - (i + m)) (c' - m)) rfl (by kernel_rfl) ?_
      simp only [Act.put, List.setIfInBounds_toArray, List.set_cons_zero, List.set_cons_succ]
      have RN : Hid (i + m ≤ n ∧ (i + m < n → o + i + (if c' = m then 0 else m) = o + (i + m)) ∧ n - (i + m) ≤ c' - m ∧ n - (i + m) < n - i) := Lib.hid (by
        have h1 := HM.out
        have h2 := HCC.out
        refine ⟨by omega, fun h3 => ?_, by omega, by omega⟩
        rw [if_neg (by omega)]; omega)
      generalize (o + i + (if c' = m then 0 else m)) = off' at RN ⊢
      by_cases he : hl + m = 16
      · have HE := Lib.hid he
        go_upto_region 4 with (fail)
        refine wp_region_lit ?_
        refine wpL_pure (.pointer (some ⟨b, 0, none⟩)) rfl (by kernel_rfl) ?_
        simp only [Act.put, List.setIfInBounds_toArray, List.set_cons_zero, List.set_cons_succ]
        refine wpL_pure (.pointer (some ⟨b, 0, none⟩)) rfl (by kernel_rfl) ?_
        simp only [Act.put, List.setIfInBounds_toArray, List.set_cons_zero, List.set_cons_succ]
        refine wpL_pure (.pointer (some ⟨b, 21, none⟩)) rfl (by kernel_rfl) ?_
        simp only [Act.put, List.setIfInBounds_toArray, List.set_cons_zero, List.set_cons_succ]
        refine wpL_pure (.int .i64 ((hl + m : Nat) : Int)) rfl (run_load_one _ _ _ 3 _ _ rfl b 21 rfl (sum_c21 (by simp [rest16]) HZ.out.2) (by kernel_rfl)) ?_
        simp only [Act.put, List.setIfInBounds_toArray, List.set_cons_zero, List.set_cons_succ]
        refine wpL_pure (.bool true) rfl (run_eql16 _ _ _ _ (hl + m) true rfl rfl (by simp [HE.out])) ?_
        simp only [Act.put, List.setIfInBounds_toArray, List.set_cons_zero, List.set_cons_succ]
        go_upto_region 5 with (fail)
        refine wp_region_lit ?_
        refine wpL_pure (.pointer (some ⟨b, 0, none⟩)) rfl (by kernel_rfl) ?_
        simp only [Act.put, List.setIfInBounds_toArray, List.set_cons_zero, List.set_cons_succ]
        refine wpL_call 16 #[.pointer (some ⟨b, 0, none⟩)] rfl (by kernel_rfl) ((take_full Z b K' HKK.out (by have q := HZ.out.2; rw [he] at q; exact q)).mono fun e V ⟨he', hq⟩ => ⟨_, he', ?_⟩)
        simp only [Act.put, List.setIfInBounds_toArray, List.set_cons_zero, List.set_cons_succ]
        have HV2 : Hid (S23 b w 0 0 0 (rest16 K') ((0 : Nat) : Int) V) := Lib.hid ⟨gb_trans HZ.out.1 hq.1, hq.2⟩
        clear hq he
        go_wp2_with fail
        go_roundw
        case rel => exact ⟨i + m, off', c' - m, rfl, Lib.hid ⟨RN.out.1, RN.out.2.1, RN.out.2.2.1, K', 0, HKK.out, by omega, HV2.out⟩⟩
        case measure => exact RN.out.2.2.2
      · have HE := Lib.hid he
        go_upto_region 4 with (fail)
        refine wp_region_lit ?_
        refine wpL_pure (.pointer (some ⟨b, 0, none⟩)) rfl (by kernel_rfl) ?_
        simp only [Act.put, List.setIfInBounds_toArray, List.set_cons_zero, List.set_cons_succ]
        refine wpL_pure (.pointer (some ⟨b, 0, none⟩)) rfl (by kernel_rfl) ?_
        simp only [Act.put, List.setIfInBounds_toArray, List.set_cons_zero, List.set_cons_succ]
        refine wpL_pure (.pointer (some ⟨b, 21, none⟩)) rfl (by kernel_rfl) ?_
        simp only [Act.put, List.setIfInBounds_toArray, List.set_cons_zero, List.set_cons_succ]
        refine wpL_pure (.int .i64 ((hl + m : Nat) : Int)) rfl (run_load_one _ _ _ 3 _ _ rfl b 21 rfl (sum_c21 (by simp [rest16]) HZ.out.2) (by kernel_rfl)) ?_
        simp only [Act.put, List.setIfInBounds_toArray, List.set_cons_zero, List.set_cons_succ]
        refine wpL_pure (.bool false) rfl (run_eql16 _ _ _ _ (hl + m) false rfl rfl (by simp [HE.out])) ?_
        simp only [Act.put, List.setIfInBounds_toArray, List.set_cons_zero, List.set_cons_succ]
        clear he
        go_wp2_with fail
        go_roundw
        case rel => exact ⟨i + m, off', c' - m, rfl, Lib.hid ⟨RN.out.1, RN.out.2.1, RN.out.2.2.1, K', hl + m, HKK.out, by have h1 := HM.out; have h2 := HE.out; have h3 := HH.out; omega, HZ.out⟩⟩
        case measure => exact RN.out.2.2.2
    · obtain ⟨hin, _, _, K, hl, hK, hh, hS⟩ := RI.out
      obtain rfl : i = n := by omega
      have HS := Lib.hid hS
      have HK := Lib.hid hK
      have HH := Lib.hid hh
      clear RI hS hK hh hin hlt
      go_upto_region 0 with (fail)
      refine wp_region_lit ?_
      refine wpL_pure (.slice (some ⟨g, off, none⟩) (i - i) c') rfl (by kernel_rfl) ?_
      simp only [Act.put, List.setIfInBounds_toArray, List.set_cons_zero, List.set_cons_succ]
      rw [Nat.sub_self]
      refine wpL_pure (.int .i64 0) rfl (by kernel_rfl) ?_
      simp only [Act.put, List.setIfInBounds_toArray, List.set_cons_zero, List.set_cons_succ]
      refine wpL_pure (.bool false) rfl (by kernel_rfl) ?_
      simp only [Act.put, List.setIfInBounds_toArray, List.set_cons_zero, List.set_cons_succ]
      go_wp2_with fail
      go_end0
      exact ⟨rfl, HS.out.1, K, hl, HK.out, HH.out, HS.out.2⟩
end Go.Proofs.Ytbgmielhnklkgaa
