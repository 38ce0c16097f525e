/- The laws' own functions. -/
import Derived.Test.YteabblmhcjpboaaC13
import Derived.Lib.SlBytesConst
namespace Go.Proofs.Yteabblmhcjpboaa.D
open Go Go.RowKit
set_option maxRecDepth 100000
def ntK (x : Int) (k : Nat) : List Int := List.replicate k x ++ List.replicate (16 - k) 0
theorem ntK_len (x : Int) {k : Nat} (h : k ≤ 16) : (ntK x k).length = 16 := by simp [ntK]; omega
theorem ntK_some (x : Int) {k : Nat} (h : k < 16) : ((u8l (ntK x k)).toArray[k]?).isSome = true := by
  rw [List.getElem?_toArray, List.getElem?_eq_getElem (by rw [u8l_len, ntK_len x (by omega)]; exact h)]; rfl
theorem ntK_set (x : Int) {k : Nat} (h : k < 16) : (u8l (ntK x k)).set k (.int .u8 x) = u8l (ntK x (k + 1)) := by
  unfold u8l ntK
  rw [← List.map_set]
  congr 1
  rw [List.set_append_right _ _ (by simp), List.length_replicate, Nat.sub_self, show 16 - k = (16 - (k + 1)) + 1 by omega, List.replicate_succ, List.set_cons_zero, List.replicate_succ' , List.append_assoc]
  rfl
theorem run_idxn (a : Act) (o : Oper) (w : World) (x i : Operand) (g k : Nat) (ho : o.op = .indexAddr 32 x i) (hx : a.eval x = .pointer (some ⟨g, 0, none⟩)) (hi : a.eval i = .int .i64 (k : Int)) (hk : k < 16) : (execOp a.eval o).run Try.prog w = .ok (.value (.pointer (some ⟨g, k, none⟩))) w := by
  have j0 : (0 : Int) ≤ (k : Int) := by omega
  have j6 : (k : Int) < 16 := by omega
  unfold execOp
  simp only [ho, hx, hi]
  go_simp
  try simp
theorem np_lt {A B C : Prop} (h1 : A) (h2 : B) (h3 : C) : A ∧ B ∧ C := ⟨h1, h2, h3⟩
theorem zero_open {fr rm s n : Nat} {nt bs : List Int} (h : OpenIs (zs n) fr rm s nt bs) : s = 0 ∧ bs = [] := by
  obtain ⟨⟨X0, X1, h0, h1, ho⟩, _⟩ := h
  have e0 := List.eq_of_mem_replicate (List.mem_of_getElem? h0)
  have e1 := List.eq_of_mem_replicate (List.mem_of_getElem? h1)
  subst e0 e1
  have z : srl (List.replicate 64 0) = 0 ∧ cntL (List.replicate 64 0) = 0 ∧ nteL (List.replicate 64 0) = List.replicate 16 0 := by decide
  have a : opA rm (List.replicate 64 0) = (0, 0, List.replicate 16 0) := by
    unfold opA
    split
    · rw [z.1, z.2.1, z.2.2]
    · rfl
  have e : opH rm (List.replicate 64 0) (List.replicate 64 0) = (0, 0, List.replicate 16 0) := by
    unfold opH
    rw [a, if_neg]
    intro q
    rw [Bool.and_eq_true, Bool.and_eq_true] at q
    have := fit_par q.2.1
    rw [z.1] at this
    omega
  rw [e] at ho
  simp only [Prod.mk.injEq] at ho
  exact ⟨ho.1.symm, List.eq_nil_of_length_eq_zero ho.2.1.symm⟩
/-- what a crash leaves, of the disk's contract. -/
theorem crs_rel {n c : Nat} {L : List (Int × List Int × Nat)} (hL : LOk n c L) {ks : List Int} (hp : ks.Perm (L.map (·.1))) (F : List Int) (S : List (List Int)) (hn : S.length = n) : CrashRel L S (crS F L ks S ks.length) := by
  have nd : ks.Nodup := hp.nodup_iff.2 hL.2.1
  have key : ∀ j, j ≤ ks.length → (crS F L ks S j).length = S.length ∧ ∀ (i : Nat) (s : List Int), S[i]? = some s → ((∀ m, m < j → ks.getD m 0 ≠ (i : Int)) → (crS F L ks S j)[i]? = some s) ∧ (∀ m, m < j → ks.getD m 0 = (i : Int) → ∃ k, (crS F L ks S j)[i]? = some (tornV (valOf L i) s k)) := by
    intro j
    induction j with
    | zero => exact fun _ => ⟨rfl, fun i s hs => ⟨fun _ => hs, fun m hm => by omega⟩⟩
    | succ j ih =>
      intro hj
      obtain ⟨ih1, ih2⟩ := ih (by omega)
      obtain ⟨kk, s0, br, hk, hm, hlt⟩ := key_at hL hp (show j < ks.length by omega)
      have dj : ∀ m, m < j → ks.getD m 0 ≠ ks.getD j 0 := fun m hm e => by
        have h1 : ks.getD m 0 = ks[m] := by simp [List.getD, List.getElem?_eq_getElem (show m < ks.length by omega)]
        have h2 : ks.getD j 0 = ks[j] := by simp [List.getD, List.getElem?_eq_getElem (show j < ks.length by omega)]
        rw [h1, h2] at e
        exact List.pairwise_iff_getElem.1 nd m j (by omega) (by omega) hm e
      rw [crS, crStep, hk, Int.toNat_natCast]
      refine ⟨by rw [List.length_set]; exact ih1, fun i s hs => ⟨fun h => ?_, fun m hm he => ?_⟩⟩
      · have ne : kk ≠ i := fun e => h j (by omega) (by rw [hk, e])
        rw [List.getElem?_set_ne ne]
        exact (ih2 i s hs).1 (fun m hm => h m (by omega))
      · rcases Nat.lt_or_ge m j with q | q
        · have ne : kk ≠ i := fun e => dj m q (by rw [hk, e]; exact he)
          rw [List.getElem?_set_ne ne]
          exact (ih2 i s hs).2 m q he
        · obtain rfl : m = j := by omega
          rw [hk] at he
          obtain rfl : kk = i := by omega
          have g := (ih2 kk s hs).1 (fun m hm => by rw [← hk]; exact dj m hm)
          rw [List.getElem?_set_self (by rw [ih1]; exact lt_of_some hs), getD_some g]
          exact ⟨_, rfl⟩
  obtain ⟨h1, h2⟩ := key ks.length (Nat.le_refl _)
  refine ⟨h1, fun i s hs => ⟨fun h => (h2 i s hs).1 (fun m hm e => ?_), fun e he q => ?_⟩⟩
  · have hk : ks.getD m 0 ∈ ks := by simp [List.getD, List.getElem?_eq_getElem hm]
    obtain ⟨x, hx, hxe⟩ := List.mem_map.1 (hp.mem_iff.1 hk)
    exact h x hx (hxe.trans e)
  · have hk : (i : Int) ∈ ks := hp.mem_iff.2 (List.mem_map.2 ⟨e, he, q⟩)
    obtain ⟨m, hm, hme⟩ := List.getElem_of_mem hk
    obtain ⟨k, hk2⟩ := (h2 i s hs).2 m hm (by simp [List.getD, List.getElem?_eq_getElem hm, hme])
    refine ⟨k, ?_⟩
    rw [hk2]
    obtain ⟨e1, e2, e3⟩ := e
    simp only at q
    subst q
    rw [valOf_mem hL.2.1 he]
def stV (s : Nat) (nt : List Int) (v : Value) : List Value := .int .u64 ((s : Nat) : Int) :: (u8l nt ++ [v])
theorem st_len {s : Nat} {nt : List Int} {v : Value} (h : NtOk nt) : (stV s nt v).length = 18 := by simp [stV, u8l, h.1]
theorem st_one (s : Nat) (nt : List Int) (a : Option Addr) (n c : Nat) : (stV s nt (.slice a n c)).toArray.all (·.oneCell') = true := by
  simp [stV, u8l, Value.oneCell']
theorem st_last {w : World} {g s : Nat} {nt : List Int} {v : Value} (h : Blk w g 42 (stV s nt v).toArray) (hn : NtOk nt) : w.cell? ⟨g, 17, none⟩ = some v := by
  rw [h.cell, List.getElem?_toArray, stV, List.getElem?_cons_succ, List.getElem?_append_right (by rw [u8l_len, hn.1]; exact Nat.le_refl _), u8l_len, hn.1]; rfl
theorem st_note {w : World} {g s : Nat} {nt : List Int} {v : Value} (h : Blk w g 42 (stV s nt v).toArray) : w.rangeAt g 1 (u8l nt) := by
  intro j u hj
  have hl : j < (u8l nt).length := lt_of_some hj
  rw [h.cell, List.getElem?_toArray, stV, show 1 + j = j + 1 by omega, List.getElem?_cons_succ, List.getElem?_append_left hl, hj]
theorem run_build42 (a : Act) (o : Oper) (w : World) (x y z : Operand) (s : Nat) (nt : List Int) (ad : Option Addr) (n c : Nat) (hn : nt.length = 16) (ho : o.op = .build 42 #[(0, x), (1, y), (2, z)]) (hx : a.eval x = .int .u64 ((s : Nat) : Int)) (hy : a.eval y = .agg (u8l nt).toArray) (hz : a.eval z = .slice ad n c) : (execOp a.eval o).run Try.prog w = .ok (.value (.agg (stV s nt (.slice ad n c)).toArray)) w := by
  match nt, hn with
  | [n0, n1, n2, n3, n4, n5, n6, n7, n8, n9, n10, n11, n12, n13, n14, n15], _ =>
    unfold execOp
    have hc : Try.prog.built 42 [(0, .int .u64 ((s : Nat) : Int)), (1, .agg (u8l [n0, n1, n2, n3, n4, n5, n6, n7, n8, n9, n10, n11, n12, n13, n14, n15]).toArray), (2, .slice ad n c)] = some (stV s [n0, n1, n2, n3, n4, n5, n6, n7, n8, n9, n10, n11, n12, n13, n14, n15] (.slice ad n c)).toArray := by kernel_rfl
    simp only [ho, List.map_toArray, List.map_cons, List.map_nil, hx, hy, hz, Sem.run_bind, run_build w 42 _ _ hc, Result.andThen_ok, Sem.run_pure]
theorem run_conv26 (a : Act) (o : Oper) (w w1 : World) (x : Operand) (C : Array Value) (n : Nat) (ho : o.op = .convert 26 26 x) (hx : a.eval x = .slice (some ⟨w.heap.size, 0, none⟩) n n) (h1 : w1 = w.alloc (.cells C 5 (C.size, C.size + 1))) : (execOp a.eval o).run Try.prog (w.alloc (.cells C 5)) = .ok (.value (.slice (some ⟨w.heap.size, 0, none⟩) n n)) w1 := by
  have q := Lib.run_convert_bytes_const (P := Try.prog) w 26 5 C n n Try.underlying26 Try.underlying5
  subst h1
  unfold execOp
  simp only [ho, hx, Sem.run_bind, q, Result.andThen_ok, Sem.run_pure]
theorem row_marked (w : World) (l : List Int) (n : Nat) (fr : Nat × Nat) (hl : l.length = n) (hn : n ≤ 100000) (hb : ∀ x ∈ l, 0 ≤ x ∧ x ≤ 255) : Row (w.alloc (.cells (u8l l).toArray 5 fr)) (some ⟨w.heap.size, 0, none⟩) n l :=
  ⟨hl, by unfold maxLen; omega, hb, fun j hj => ⟨w.heap.size, 0, rfl, by
    rw [Nat.zero_add]
    have h : (w.alloc (.cells (u8l l).toArray 5 fr)).heap[w.heap.size]? = some (.cells (u8l l).toArray 5 fr) := heap_alloc_new w _
    rw [cell_of_row _ _ _ _ _ _ h]
    simp [u8l, List.getD, List.getElem?_eq_getElem (show j < l.length by omega), show j < l.length by omega]⟩⟩
theorem own_ne {w : World} {B g : Nat} {v : Value} {xs : List Int} (h : g < B) (o : Own w B v xs) : v.ownBlock = none ∨ v.ownBlock ≠ some g := .inr (fun e => by have := (o.lt g e).1; omega)
attribute [local irreducible] wpList
set_option maxHeartbeats 8000000
theorem notef_any (w : World) (x : Int) : Calls Try.prog 12 #[.int .u8 x] w fun e w' => e = .returned (.agg (u8l (List.replicate 16 x)).toArray) ∧ Below w.heap.size w w' := by
  go_enter Try.func12, Try.ntmps12
  go_upto_region 0 with (fail)
  refine wp_region_lit ?_
  obtain ⟨W1, hW1⟩ : ∃ V, V = w.alloc (.cells (u8l (ntK x 0)).toArray 32) := ⟨_, rfl⟩
  refine wpL_value (.pointer (some ⟨w.heap.size, 0, none⟩)) W1 rfl (by rw [hW1]; kernel_rfl) ?_
  simp only [Act.put, List.setIfInBounds_toArray, List.set_cons_zero, List.set_cons_succ]
  obtain ⟨g2, hg2⟩ : ∃ q, w.heap.size = q := ⟨_, rfl⟩
  have F1 : Hid (Below w.heap.size w W1 ∧ Blk W1 g2 32 (u8l (ntK x 0)).toArray ∧ w.heap.size ≤ g2) := Lib.hid (by rw [hW1, ← hg2]; exact ⟨(Below.refl _ _).alloc (Nat.le_refl _) _, Blk.new _ _ _, Nat.le_refl _⟩)
  rw [hg2]
  clear hW1 hg2
  go_upto_region 1 with (fail)
  refine wp_region_lit ?_
  obtain ⟨W2, hW2⟩ : ∃ V, V = W1.alloc (.cells (u8l (ntK x 0)).toArray 32) := ⟨_, rfl⟩
  refine wpL_value (.pointer (some ⟨W1.heap.size, 0, none⟩)) W2 rfl (by rw [hW2]; kernel_rfl) ?_
  simp only [Act.put, List.setIfInBounds_toArray, List.set_cons_zero, List.set_cons_succ]
  obtain ⟨g3, hg3⟩ : ∃ q, W1.heap.size = q := ⟨_, rfl⟩
  have F2 : Hid (Below w.heap.size w W2 ∧ Blk W2 g2 32 (u8l (ntK x 0)).toArray ∧ Blk W2 g3 32 (u8l (ntK x 0)).toArray ∧ g2 ≠ g3 ∧ w.heap.size ≤ g2 ∧ w.heap.size ≤ g3) := Lib.hid (by have l := F1.out.2.1.lt; have z := F1.out.1.size; rw [hW2]; exact ⟨F1.out.1.alloc F1.out.1.size _, F1.out.2.1.alloc _, by rw [← hg3]; exact Blk.new _ _ _, by omega, F1.out.2.2, by omega⟩)
  rw [hg3]
  clear hW2 hg3
  go_upto_region 2 with (fail)
  refine wp_region_lit ?_
  refine wpL_pure (.int .i64 0) rfl (by kernel_rfl) ?_
  simp only [Act.put, List.setIfInBounds_toArray, List.set_cons_zero, List.set_cons_succ]
  unfold wpList
  go_wp2_with fail
  go_loopw [4] (fun s4 wr => ∃ k : Nat, s4 = .int .i64 (k : Int) ∧ Hid (k ≤ 16 ∧ Below w.heap.size w wr ∧ Blk wr g2 32 (u8l (ntK x 0)).toArray ∧ Blk wr g3 32 (u8l (ntK x k)).toArray)) (fun s4 _ => 16 - (intOf s4).toNat)
  case atStart => exact ⟨0, rfl, Lib.hid ⟨by omega, F2.out.1, F2.out.2.1, F2.out.2.2.1⟩⟩
  case round =>
    obtain ⟨k, rfl, RI⟩ := hrel
    by_cases hlt : k < 16
    · have HK := Lib.hid hlt
      clear hlt
      go_upto_region 3 with (fail)
      refine wp_region_lit ?_
      refine wpL_pure (.int .i64 (k : Int)) rfl (by kernel_rfl) ?_
      simp only [Act.put, List.setIfInBounds_toArray, List.set_cons_zero, List.set_cons_succ]
      refine wpL_pure (.bool true) rfl (run_lti Try.underlying3 rfl rfl rfl (by have := HK.out; rw [decide_eq_true_eq]; omega)) ?_
      simp only [Act.put, List.setIfInBounds_toArray, List.set_cons_zero, List.set_cons_succ]
      go_upto_region 5 with (fail)
      refine wp_region_lit ?_
      refine wpL_pure (.int .i64 (k : Int)) rfl (by kernel_rfl) ?_
      simp only [Act.put, List.setIfInBounds_toArray, List.set_cons_zero, List.set_cons_succ]
      refine wpL_pure (.int .u8 x) rfl (by kernel_rfl) ?_
      simp only [Act.put, List.setIfInBounds_toArray, List.set_cons_zero, List.set_cons_succ]
      refine wpL_pure (.pointer (some ⟨g3, k, none⟩)) rfl (run_idxn _ _ _ _ _ g3 k rfl rfl rfl HK.out) ?_
      simp only [Act.put, List.setIfInBounds_toArray, List.set_cons_zero, List.set_cons_succ]
      refine wpL_store_one rfl rfl (g3) (k) rfl (.int .u8 x) rfl rfl size5 (by rw [RI.out.2.2.2.cell]; exact ntK_some x HK.out) (RI.out.2.2.2.free _) ?_
      simp only [Act.put, List.setIfInBounds_toArray, List.set_cons_zero, List.set_cons_succ]
      obtain ⟨w2, hw2⟩ : ∃ V, V = wr.setCell ⟨g3, k, none⟩ (.int .u8 x) := ⟨_, rfl⟩
      rw [← hw2]
      have NX : Hid (k + 1 ≤ 16 ∧ Below w.heap.size w w2 ∧ Blk w2 g2 32 (u8l (ntK x 0)).toArray ∧ Blk w2 g3 32 (u8l (ntK x (k + 1))).toArray) := Lib.hid (by rw [hw2]; exact ⟨HK.out, RI.out.2.1.setCell (p := ⟨g3, k, none⟩) F2.out.2.2.2.2.2 _, RI.out.2.2.1.other _ _ F2.out.2.2.2.1, by have q := RI.out.2.2.2.set k (.int .u8 x); rw [ntK_set x HK.out] at q; exact q⟩)
      clear hw2
      go_upto_region 4 with (fail)
      refine wp_region_lit ?_
      refine wpL_pure (.int .i64 (k : Int)) rfl (by kernel_rfl) ?_
      simp only [Act.put, List.setIfInBounds_toArray, List.set_cons_zero, List.set_cons_succ]
      refine wpL_pure (.int .i64 ((k + 1 : Nat) : Int)) rfl (run_addi Try.underlying3 rfl rfl rfl _ (by have := HK.out; rw [wrap_in _ (by omega) (by omega)]; omega)) ?_
      simp only [Act.put, List.setIfInBounds_toArray, List.set_cons_zero, List.set_cons_succ]
      refine wpL_pure (.int .i64 ((k + 1 : Nat) : Int)) rfl (by kernel_rfl) ?_
      simp only [Act.put, List.setIfInBounds_toArray, List.set_cons_zero, List.set_cons_succ]
      unfold wpList
      go_roundw
      case rel => first | exact ⟨_, rfl, NX⟩ | ((repeat apply Exists.intro); exact ⟨⟨_, rfl, NX⟩, rfl⟩)
      case measure => simp [intOf]; have := HK.out; omega
    · have EK : Hid (k = 16) := Lib.hid (by have := RI.out.1; omega)
      clear hlt
      have F3 : Hid (Below w.heap.size w wr ∧ Blk wr g2 32 (u8l (ntK x 0)).toArray ∧ Blk wr g3 32 (u8l (List.replicate 16 x)).toArray) := Lib.hid (by have q := RI.out.2; rw [EK.out] at q; exact q)
      go_upto_region 3 with (fail)
      refine wp_region_lit ?_
      refine wpL_pure (.int .i64 (k : Int)) rfl (by kernel_rfl) ?_
      simp only [Act.put, List.setIfInBounds_toArray, List.set_cons_zero, List.set_cons_succ]
      refine wpL_pure (.bool false) rfl (run_lti Try.underlying3 rfl rfl rfl (by have := EK.out; rw [decide_eq_false_iff_not]; omega)) ?_
      simp only [Act.put, List.setIfInBounds_toArray, List.set_cons_zero, List.set_cons_succ]
      go_upto_region 6 with (fail)
      refine wp_region_lit ?_
      refine wpL_pure (.agg (u8l (List.replicate 16 x)).toArray) rfl (run_load_mid _ _ _ 32 _ rfl g3 0 rfl (u8l (List.replicate 16 x)) _ (blk_range F3.out.2.2) Try.underlying32 rfl (by kernel_rfl)) ?_
      simp only [Act.put, List.setIfInBounds_toArray, List.set_cons_zero, List.set_cons_succ]
      refine wpList_store_row rfl 32 _ _ rfl g2 (u8l (List.replicate 16 x)).toArray rfl rfl 32 _ F3.out.2.1 (by kernel_rfl) (by rfl) (u8l_one _) ?_
      simp only [Act.put, List.setIfInBounds_toArray, List.set_cons_zero, List.set_cons_succ]
      obtain ⟨W4, hW4⟩ : ∃ V, V = wr.setRow g2 (u8l (List.replicate 16 x)).toArray := ⟨_, rfl⟩
      rw [← hW4]
      have F4 : Hid (Below w.heap.size w W4 ∧ Blk W4 g2 32 (u8l (List.replicate 16 x)).toArray) := Lib.hid (by rw [hW4]; exact ⟨below_setRow F3.out.1 F2.out.2.2.2.2.1 _, setRow_heap _ _ _ _ _ _ F3.out.2.1⟩)
      clear hW4
      go_wp2_with fail
      exact bodyPost_ret (results_cell_row rfl _ _ g2 32 _ (0, 0) _ rfl F4.out.2 Try.underlying32 rfl (by kernel_rfl)) rfl ⟨rfl, F4.out.1⟩
theorem awake_any (w : World) : Calls Try.prog 8 #[] w fun e w' => e = .returned (.bool true) ∧ Below w.heap.size w w' := by
  go_enter Try.func8, Try.ntmps8
  go_upto_region 0 with (fail)
  refine wp_region_lit ?_
  refine wpL_pure (.bool false) rfl (by kernel_rfl) ?_
  simp only [Act.put, List.setIfInBounds_toArray, List.set_cons_zero, List.set_cons_succ]
  go_upto_region 1 with (fail)
  refine wp_region_lit ?_
  refine wpL_call 9 #[.int .i64 3] rfl (by kernel_rfl) ((newD 3 (by omega) w).mono fun e W1 ⟨b, gs, gm, he, d, bb, l1, l2, l3⟩ => ⟨.pointer (some ⟨b, 0, none⟩), he, ?_⟩)
  simp only [Act.put, List.setIfInBounds_toArray, List.set_cons_zero, List.set_cons_succ]
  have F1 : Hid (Below w.heap.size w W1 ∧ DS W1 b gs gm 3 [] 0 (zs 3) false 0 false ∧ w.heap.size ≤ b ∧ w.heap.size ≤ gs ∧ w.heap.size ≤ gm) := Lib.hid ⟨bb, d, np_lt l1 l2 l3⟩
  clear bb d l1 l2 l3
  refine wpL_pure (.pointer (some ⟨b, 0, none⟩)) rfl (by kernel_rfl) ?_
  simp only [Act.put, List.setIfInBounds_toArray, List.set_cons_zero, List.set_cons_succ]
  go_upto_region 2 with (fail)
  refine wp_region_lit ?_
  refine wpL_pure (.pointer (some ⟨b, 0, none⟩)) rfl (by kernel_rfl) ?_
  simp only [Act.put, List.setIfInBounds_toArray, List.set_cons_zero, List.set_cons_succ]
  refine wpL_call 10 #[.pointer (some ⟨b, 0, none⟩), .int .i64 0, .int .i64 3] rfl (by kernel_rfl) ((open_any F1.out.2.1 0 1 (by omega) (by omega)).mono ?_)
  rintro e W2 ⟨lb, s, nt, bs, va, vc, he, h, ho, op, hm, bb, l1, l2⟩
  obtain ⟨rfl, rfl⟩ := zero_open op
  have F2 : Hid (Below w.heap.size w W2 ∧ DS W2 b gs gm 3 [] 0 (zs 3) false 0 false ∧ LS W2 lb b 0 1 0 0 nt (.slice va 0 vc) false ∧ Own W2 0 (.slice va 0 vc) [] ∧ (lb ≠ b ∧ lb ≠ gs ∧ lb ≠ gm) ∧ (∀ k, (Value.slice va 0 vc).ownBlock = some k → k ≠ b ∧ k ≠ gs ∧ k ≠ gm ∧ k ≠ lb)) := Lib.hid (by have l3 := F1.out.2.1.lts; exact ⟨F1.out.1.trans (bb.mono F1.out.1.size), F1.out.2.1.below bb, h, ho, by omega, fun k hk => by have q := l2 k hk; omega⟩)
  have OP := Lib.hid op
  have LBB : Hid (w.heap.size ≤ lb) := Lib.hid (Nat.le_trans F1.out.1.size l1)
  have VBB : Hid (∀ k, (Value.slice va 0 vc).ownBlock = some k → w.heap.size ≤ k) := Lib.hid (fun k hk => Nat.le_trans F1.out.1.size (l2 k hk).1)
  clear h ho op hm bb l1 l2
  refine ⟨.tuple #[.pointer (some ⟨lb, 0, none⟩), .int .i64 0], he, ?_⟩
  simp only [Act.put, List.setIfInBounds_toArray, List.set_cons_zero, List.set_cons_succ]
  clear he
  refine wpL_pure (.tuple #[.pointer (some ⟨lb, 0, none⟩), .int .i64 0]) rfl (by kernel_rfl) ?_
  simp only [Act.put, List.setIfInBounds_toArray, List.set_cons_zero, List.set_cons_succ]
  refine wpL_pure (.pointer (some ⟨lb, 0, none⟩)) rfl (by kernel_rfl) ?_
  simp only [Act.put, List.setIfInBounds_toArray, List.set_cons_zero, List.set_cons_succ]
  refine wpL_pure (.int .i64 0) rfl (by kernel_rfl) ?_
  simp only [Act.put, List.setIfInBounds_toArray, List.set_cons_zero, List.set_cons_succ]
  refine wpL_pure (.pointer (some ⟨lb, 0, none⟩)) rfl (by kernel_rfl) ?_
  simp only [Act.put, List.setIfInBounds_toArray, List.set_cons_zero, List.set_cons_succ]
  refine wpL_pure (.int .i64 0) rfl (by kernel_rfl) ?_
  simp only [Act.put, List.setIfInBounds_toArray, List.set_cons_zero, List.set_cons_succ]
  go_upto_region 3 with (fail)
  refine wp_region_lit ?_
  refine wpL_pure (.int .i64 0) rfl (by kernel_rfl) ?_
  simp only [Act.put, List.setIfInBounds_toArray, List.set_cons_zero, List.set_cons_succ]
  refine wpL_pure (.bool true) rfl (by kernel_rfl) ?_
  simp only [Act.put, List.setIfInBounds_toArray, List.set_cons_zero, List.set_cons_succ]
  refine wpL_pure (.bool true) rfl (by kernel_rfl) ?_
  simp only [Act.put, List.setIfInBounds_toArray, List.set_cons_zero, List.set_cons_succ]
  refine wpL_pure (.pointer (some ⟨lb, 0, none⟩)) rfl (by kernel_rfl) ?_
  simp only [Act.put, List.setIfInBounds_toArray, List.set_cons_zero, List.set_cons_succ]
  refine wpL_pure (.bool true) rfl (by kernel_rfl) ?_
  simp only [Act.put, List.setIfInBounds_toArray, List.set_cons_zero, List.set_cons_succ]
  refine wpL_pure (.bool true) rfl (by kernel_rfl) ?_
  simp only [Act.put, List.setIfInBounds_toArray, List.set_cons_zero, List.set_cons_succ]
  refine wpL_pure (.bool true) rfl (by kernel_rfl) ?_
  simp only [Act.put, List.setIfInBounds_toArray, List.set_cons_zero, List.set_cons_succ]
  refine wpL_pure (.pointer (some ⟨lb, 0, none⟩)) rfl (by kernel_rfl) ?_
  simp only [Act.put, List.setIfInBounds_toArray, List.set_cons_zero, List.set_cons_succ]
  refine wpL_call 22 #[.pointer (some ⟨lb, 0, none⟩)] rfl (by kernel_rfl) ((roomD F2.out.2.2.1 va 0 vc rfl (by omega)).mono fun e W3 ⟨he, bb⟩ => ⟨.int .i64 64, (he.trans (by rfl)), ?_⟩)
  simp only [Act.put, List.setIfInBounds_toArray, List.set_cons_zero, List.set_cons_succ]
  have F3 : Hid (Below w.heap.size w W3 ∧ DS W3 b gs gm 3 [] 0 (zs 3) false 0 false ∧ LS W3 lb b 0 1 0 0 nt (.slice va 0 vc) false ∧ Own W3 0 (.slice va 0 vc) []) := Lib.hid ⟨F2.out.1.trans (bb.mono F2.out.1.size), F2.out.2.1.below bb, F2.out.2.2.1.below bb, F2.out.2.2.2.1.below bb⟩
  clear bb
  refine wpL_pure (.bool true) rfl (by kernel_rfl) ?_
  simp only [Act.put, List.setIfInBounds_toArray, List.set_cons_zero, List.set_cons_succ]
  refine wpL_pure (.bool true) rfl (by kernel_rfl) ?_
  simp only [Act.put, List.setIfInBounds_toArray, List.set_cons_zero, List.set_cons_succ]
  refine wpL_pure (.bool true) rfl (by kernel_rfl) ?_
  simp only [Act.put, List.setIfInBounds_toArray, List.set_cons_zero, List.set_cons_succ]
  refine wpL_pure (.pointer (some ⟨lb, 0, none⟩)) rfl (by kernel_rfl) ?_
  simp only [Act.put, List.setIfInBounds_toArray, List.set_cons_zero, List.set_cons_succ]
  refine wpL_value (.slice (some ⟨W3.heap.size, 0, none⟩) 1 1) (W3.alloc (.cells #[.int .u8 120] 5)) rfl (by kernel_rfl) ?_
  simp only [Act.put, List.setIfInBounds_toArray, List.set_cons_zero, List.set_cons_succ]
  obtain ⟨W4, hW4⟩ : ∃ V, V = W3.alloc (.cells #[.int .u8 120] 5 (1, 2)) := ⟨_, rfl⟩
  refine wpL_value (.slice (some ⟨W3.heap.size, 0, none⟩) 1 1) W4 rfl (run_conv26 _ _ W3 W4 _ #[.int .u8 120] 1 rfl rfl hW4) ?_
  simp only [Act.put, List.setIfInBounds_toArray, List.set_cons_zero, List.set_cons_succ]
  obtain ⟨g4, hg4⟩ : ∃ q, W3.heap.size = q := ⟨_, rfl⟩
  have F4 : Hid (Below w.heap.size w W4 ∧ DS W4 b gs gm 3 [] 0 (zs 3) false 0 false ∧ LS W4 lb b 0 1 0 0 nt (.slice va 0 vc) false ∧ Own W4 0 (.slice va 0 vc) [] ∧ Row W4 (some ⟨g4, 0, none⟩) 1 [120] ∧ (g4 ≠ b ∧ g4 ≠ gs ∧ g4 ≠ gm)) := Lib.hid (by have bb : Below W3.heap.size W3 W4 := (by rw [hW4]; exact (Below.refl _ _).alloc (Nat.le_refl _) _); have l3 := F3.out.2.1.lts; exact ⟨F3.out.1.trans (bb.mono F3.out.1.size), F3.out.2.1.below bb, F3.out.2.2.1.below bb, F3.out.2.2.2.below bb, by rw [hW4, ← hg4]; exact row_marked W3 [120] 1 (1, 2) rfl (by omega) (by decide), by omega⟩)
  rw [hg4]
  clear hW4 hg4
  refine wpL_pure (.agg (u8l (1 :: List.replicate 15 0)).toArray) rfl (by kernel_rfl) ?_
  simp only [Act.put, List.setIfInBounds_toArray, List.set_cons_zero, List.set_cons_succ]
  refine wpL_call 11 #[.pointer (some ⟨lb, 0, none⟩), .slice (some ⟨g4, 0, none⟩) 1 1, .agg (u8l (1 :: List.replicate 15 0)).toArray] rfl (by kernel_rfl) ((append_any (bs := []) F4.out.2.2.1 F4.out.2.1 F4.out.2.2.2.1 (by simp) F2.out.2.2.2.2.2 F2.out.2.2.2.2.1 (by omega) OP.out (by omega) (some ⟨g4, 0, none⟩) 1 1 [120] ⟨F4.out.2.2.2.2.1, by omega, by omega, fun _ p hp => by cases hp; rfl⟩ (fun _ p hp => by cases hp; exact F4.out.2.2.2.2.2) (1 :: List.replicate 15 0) ⟨rfl, by decide⟩).mono ?_)
  rintro e W5 (⟨q, _⟩ | ⟨_, rfl, dc5, fz5, S5, xa, xc, l5, d5, f5, o5, n5, op5, _⟩ | ⟨_, q, _⟩)
  · simp at q
  · have F5 : Hid (Below w.heap.size w W5 ∧ LS W5 lb b 0 1 1 1 (1 :: List.replicate 15 0) (.slice xa 1 xc) false ∧ Own W5 0 (.slice xa 1 xc) [120]) := Lib.hid (by exact ⟨f5.below F4.out.1 (fun k hk => by have l1 := F1.out.2.2; rcases hk with h | h | h | h | h <;> first | omega | (have := VBB.out k h; omega) | (have := LBB.out; omega)), l5, o5⟩)
    clear l5 d5 f5 o5 n5 op5
    refine ⟨.int .i64 0, rfl, ?_⟩
    simp only [Act.put, List.setIfInBounds_toArray, List.set_cons_zero, List.set_cons_succ]
    refine wpL_pure (.bool true) rfl (by kernel_rfl) ?_
    simp only [Act.put, List.setIfInBounds_toArray, List.set_cons_zero, List.set_cons_succ]
    refine wpL_pure (.bool true) rfl (by kernel_rfl) ?_
    simp only [Act.put, List.setIfInBounds_toArray, List.set_cons_zero, List.set_cons_succ]
    refine wpL_pure (.bool true) rfl (by kernel_rfl) ?_
    simp only [Act.put, List.setIfInBounds_toArray, List.set_cons_zero, List.set_cons_succ]
    refine wpL_pure (.pointer (some ⟨lb, 0, none⟩)) rfl (by kernel_rfl) ?_
    simp only [Act.put, List.setIfInBounds_toArray, List.set_cons_zero, List.set_cons_succ]
    refine wpL_call 13 #[.pointer (some ⟨lb, 0, none⟩)] rfl (by kernel_rfl) ((bytes_any (v := undef) F5.out.2.1 F5.out.2.2 (by omega)).mono fun e W6 ⟨u, he, bb, ou⟩ => ⟨u, he, ?_⟩)
    simp only [Act.put, List.setIfInBounds_toArray, List.set_cons_zero, List.set_cons_succ]
    obtain ⟨ua, uc, eu⟩ := ou.slice
    subst eu
    have F6 : Hid (Below w.heap.size w W6 ∧ Own W6 W5.heap.size (.slice ua 1 uc) [120]) := Lib.hid ⟨F5.out.1.trans (bb.mono F5.out.1.size), ou⟩
    clear bb ou
    refine wpL_pure (.string (strOfNums [120])) rfl (run_conv_str _ _ _ _ ua 1 uc [120] rfl rfl F6.out.2.row.1) ?_
    simp only [Act.put, List.setIfInBounds_toArray, List.set_cons_zero, List.set_cons_succ]
    refine wpL_pure (.bool true) rfl (run_str_eql _ _ _ _ _ [120] [120] true rfl rfl rfl (by decide) (by decide) (by decide)) ?_
    simp only [Act.put, List.setIfInBounds_toArray, List.set_cons_zero, List.set_cons_succ]
    refine wpL_pure (.bool true) rfl (by kernel_rfl) ?_
    simp only [Act.put, List.setIfInBounds_toArray, List.set_cons_zero, List.set_cons_succ]
    refine wpL_pure (.bool true) rfl (by kernel_rfl) ?_
    simp only [Act.put, List.setIfInBounds_toArray, List.set_cons_zero, List.set_cons_succ]
    go_wp2_with fail
    go_ret
    exact ⟨rfl, F6.out.1⟩
  · cases q
theorem state_any {w : World} {lb b fr rm s c : Nat} {nt : List Int} {ov : Bool} {va : Option Addr} {vl vc : Nat} {bs : List Int} (h : LS w lb b fr rm s c nt (.slice va vl vc) ov) (ho : Own w 0 (.slice va vl vc) bs) (hl : bs.length = vl) (hb : vl ≤ 1000000) : Calls Try.prog 21 #[.pointer (some ⟨lb, 0, none⟩)] w fun e w' => ∃ (ua : Option Addr) (uc : Nat), e = .returned (.agg (stV s nt (.slice ua vl uc)).toArray) ∧ Below w.heap.size w w' ∧ Own w' w.heap.size (.slice ua vl uc) bs := by
  have H := Lib.hid h
  have HO := Lib.hid (And.intro ho (And.intro hl hb))
  clear h ho hl hb
  go_enter Try.func21, Try.ntmps21
  go_upto_region 0 with (fail)
  refine wp_region_lit ?_
  obtain ⟨W1, hW1⟩ : ∃ V, V = w.alloc (.cells (stV 0 (List.replicate 16 0) (.slice none 0 0)).toArray 42) := ⟨_, rfl⟩
  refine wpL_value (.pointer (some ⟨w.heap.size, 0, none⟩)) W1 rfl (by rw [hW1]; kernel_rfl) ?_
  simp only [Act.put, List.setIfInBounds_toArray, List.set_cons_zero, List.set_cons_succ]
  obtain ⟨g2, hg2⟩ : ∃ q, w.heap.size = q := ⟨_, rfl⟩
  have F1 : Hid (Below w.heap.size w W1 ∧ Blk W1 g2 42 (stV 0 (List.replicate 16 0) (.slice none 0 0)).toArray ∧ LS W1 lb b fr rm s c nt (.slice va vl vc) ov ∧ Own W1 0 (.slice va vl vc) bs ∧ w.heap.size ≤ g2) := Lib.hid (by have bb : Below w.heap.size w W1 := (by rw [hW1]; exact (Below.refl _ _).alloc (Nat.le_refl _) _); exact ⟨bb, by rw [hW1, ← hg2]; exact Blk.new _ _ _, H.out.below bb, HO.out.1.below bb, Nat.le_of_eq hg2⟩)
  rw [hg2]
  clear hW1 hg2
  go_upto_region 1 with (fail)
  refine wp_region_lit ?_
  refine wpL_pure (.pointer (some ⟨lb, 0, none⟩)) rfl (by kernel_rfl) ?_
  simp only [Act.put, List.setIfInBounds_toArray, List.set_cons_zero, List.set_cons_succ]
  refine wpL_call 14 #[.pointer (some ⟨lb, 0, none⟩)] rfl (by kernel_rfl) ((serialD F1.out.2.2.1).mono fun e X ⟨he, hx⟩ => ⟨.int .u64 ((s : Nat) : Int), he, ?_⟩)
  simp only [Act.put, List.setIfInBounds_toArray, List.set_cons_zero, List.set_cons_succ]
  subst hx
  refine wpL_pure (.pointer (some ⟨lb, 0, none⟩)) rfl (by kernel_rfl) ?_
  simp only [Act.put, List.setIfInBounds_toArray, List.set_cons_zero, List.set_cons_succ]
  refine wpL_call 15 #[.pointer (some ⟨lb, 0, none⟩)] rfl (by kernel_rfl) ((note_any F1.out.2.2.1).mono fun e W2 ⟨he, bb⟩ => ⟨.agg (u8l nt).toArray, he, ?_⟩)
  simp only [Act.put, List.setIfInBounds_toArray, List.set_cons_zero, List.set_cons_succ]
  have F2 : Hid (Below w.heap.size w W2 ∧ Blk W2 g2 42 (stV 0 (List.replicate 16 0) (.slice none 0 0)).toArray ∧ LS W2 lb b fr rm s c nt (.slice va vl vc) ov ∧ Own W2 0 (.slice va vl vc) bs) := Lib.hid ⟨F1.out.1.trans (bb.mono F1.out.1.size), F1.out.2.1.below bb, F1.out.2.2.1.below bb, F1.out.2.2.2.1.below bb⟩
  clear bb
  refine wpL_pure (.pointer (some ⟨lb, 0, none⟩)) rfl (by kernel_rfl) ?_
  simp only [Act.put, List.setIfInBounds_toArray, List.set_cons_zero, List.set_cons_succ]
  refine wpL_call 13 #[.pointer (some ⟨lb, 0, none⟩)] rfl (by kernel_rfl) ((bytes_any (v := undef) F2.out.2.2.1 F2.out.2.2.2 HO.out.2.2).mono fun e W3 ⟨u, he, bb, ou⟩ => ⟨u, he, ?_⟩)
  simp only [Act.put, List.setIfInBounds_toArray, List.set_cons_zero, List.set_cons_succ]
  obtain ⟨ua, uc, eu⟩ := ou.slice
  rw [HO.out.2.1] at eu
  subst eu
  have F3 : Hid ((Below w.heap.size w W3 ∧ Blk W3 g2 42 (stV 0 (List.replicate 16 0) (.slice none 0 0)).toArray ∧ LS W3 lb b fr rm s c nt (.slice va vl vc) ov ∧ Own W3 0 (.slice va vl vc) bs) ∧ g2 < W2.heap.size ∧ Own W3 W2.heap.size (.slice ua vl uc) bs) := Lib.hid ⟨⟨F2.out.1.trans (bb.mono F2.out.1.size), F2.out.2.1.below bb, F2.out.2.2.1.below bb, F2.out.2.2.2.below bb⟩, F2.out.2.1.lt, ou⟩
  have BZ := Lib.hid F2.out.1.size
  clear bb ou
  refine wpL_pure (.agg (stV s nt (.slice ua vl uc)).toArray) rfl (run_build42 _ _ _ _ _ _ _ _ _ _ _ H.out.2.1.1 rfl rfl rfl rfl) ?_
  simp only [Act.put, List.setIfInBounds_toArray, List.set_cons_zero, List.set_cons_succ]
  refine wpList_store_row rfl 42 _ _ rfl g2 (stV s nt (.slice ua vl uc)).toArray rfl rfl 42 _ F3.out.1.2.1 (by simp only [List.size_toArray, st_len H.out.2.1] <;> kernel_rfl) (by simp only [List.size_toArray, st_len H.out.2.1] <;> rfl) (st_one _ _ _ _ _) ?_
  simp only [Act.put, List.setIfInBounds_toArray, List.set_cons_zero, List.set_cons_succ]
  obtain ⟨W4, hW4⟩ : ∃ V, V = W3.setRow g2 (stV s nt (.slice ua vl uc)).toArray := ⟨_, rfl⟩
  rw [← hW4]
  have F4 : Hid (Below w.heap.size w W4 ∧ Blk W4 g2 42 (stV s nt (.slice ua vl uc)).toArray ∧ Own W4 w.heap.size (.slice ua vl uc) bs) := Lib.hid (by rw [hW4]; exact ⟨below_setRow F3.out.1.1 F1.out.2.2.2.2 _, setRow_heap _ _ _ _ _ _ F3.out.1.2.1, (F3.out.2.2.grown (row_gb W3 g2 _) (own_ne F3.out.2.1 F3.out.2.2)).mono (by have := F3.out.2.1; have := BZ.out; omega)⟩)
  clear hW4
  go_wp2_with fail
  exact bodyPost_ret (results_cell_row rfl _ _ g2 42 _ (0, 0) _ rfl F4.out.2.1 Try.underlying42 rfl (by simp only [List.size_toArray, st_len H.out.2.1] <;> kernel_rfl)) rfl ⟨ua, uc, rfl, F4.out.1, F4.out.2.2⟩
theorem same_any (w : World) (s s2 n n2 ca ca2 : Nat) (nt nt2 xs ys : List Int) (a a2 : Option Addr) (hn : NtOk nt) (hn2 : NtOk nt2) (hx : Row w a n xs) (hy : Row w a2 n2 ys) : Calls Try.prog 20 #[.agg (stV s nt (.slice a n ca)).toArray, .agg (stV s2 nt2 (.slice a2 n2 ca2)).toArray] w fun e w' => e = .returned (.bool (decide (s = s2) && (decide (nt = nt2) && decide (xs = ys)))) ∧ Below w.heap.size w w' := by
  have HN := Lib.hid (And.intro hn hn2)
  have HX := Lib.hid hx
  have HY := Lib.hid hy
  clear hn hn2 hx hy
  go_enter Try.func20, Try.ntmps20
  go_upto_region 0 with (fail)
  refine wp_region_lit ?_
  obtain ⟨W1, hW1⟩ : ∃ V, V = w.alloc (.cells (stV s nt (.slice a n ca)).toArray 42) := ⟨_, rfl⟩
  refine wpL_value (.pointer (some ⟨w.heap.size, 0, none⟩)) W1 rfl (by rw [hW1]; kernel_rfl) ?_
  simp only [Act.put, List.setIfInBounds_toArray, List.set_cons_zero, List.set_cons_succ]
  obtain ⟨g2, hg2⟩ : ∃ q, w.heap.size = q := ⟨_, rfl⟩
  have F1 : Hid (Below w.heap.size w W1 ∧ Blk W1 g2 42 (stV s nt (.slice a n ca)).toArray) := Lib.hid (by rw [hW1, ← hg2]; exact ⟨(Below.refl _ _).alloc (Nat.le_refl _) _, Blk.new _ _ _⟩)
  rw [hg2]
  clear hW1 hg2
  obtain ⟨W2, hW2⟩ : ∃ V, V = W1.alloc (.cells (stV s2 nt2 (.slice a2 n2 ca2)).toArray 42) := ⟨_, rfl⟩
  refine wpL_value (.pointer (some ⟨W1.heap.size, 0, none⟩)) W2 rfl (by rw [hW2]; kernel_rfl) ?_
  simp only [Act.put, List.setIfInBounds_toArray, List.set_cons_zero, List.set_cons_succ]
  obtain ⟨g3, hg3⟩ : ∃ q, W1.heap.size = q := ⟨_, rfl⟩
  have F2 : Hid (Below w.heap.size w W2 ∧ Blk W2 g2 42 (stV s nt (.slice a n ca)).toArray ∧ Blk W2 g3 42 (stV s2 nt2 (.slice a2 n2 ca2)).toArray ∧ Row W2 a n xs ∧ Row W2 a2 n2 ys) := Lib.hid (by have bb : Below w.heap.size w W2 := (by rw [hW2]; exact F1.out.1.alloc F1.out.1.size _); exact ⟨bb, by rw [hW2]; exact F1.out.2.alloc _, by rw [hW2, ← hg3]; exact Blk.new _ _ _, HX.out.keep bb, HY.out.keep bb⟩)
  rw [hg3]
  clear hW2 hg3
  refine wpL_pure (.bool false) rfl (by kernel_rfl) ?_
  simp only [Act.put, List.setIfInBounds_toArray, List.set_cons_zero, List.set_cons_succ]
  by_cases h1 : s = s2
  · have E1 := Lib.hid h1
    clear h1
    by_cases h2 : nt = nt2
    · have E2 := Lib.hid h2
      clear h2
      go_upto_region 1 with (fail)
      refine wp_region_lit ?_
      refine wpL_pure (.pointer (some ⟨g2, 0, none⟩)) rfl (by kernel_rfl) ?_
      simp only [Act.put, List.setIfInBounds_toArray, List.set_cons_zero, List.set_cons_succ]
      refine wpL_pure (.int .u64 ((s : Nat) : Int)) rfl (run_load_one _ _ _ 35 _ _ rfl (g2) (0) rfl (by rw [F2.out.2.1.cell]; rfl) (by kernel_rfl)) ?_
      simp only [Act.put, List.setIfInBounds_toArray, List.set_cons_zero, List.set_cons_succ]
      refine wpL_pure (.pointer (some ⟨g3, 0, none⟩)) rfl (by kernel_rfl) ?_
      simp only [Act.put, List.setIfInBounds_toArray, List.set_cons_zero, List.set_cons_succ]
      refine wpL_pure (.int .u64 ((s2 : Nat) : Int)) rfl (run_load_one _ _ _ 35 _ _ rfl (g3) (0) rfl (by rw [F2.out.2.2.1.cell]; rfl) (by kernel_rfl)) ?_
      simp only [Act.put, List.setIfInBounds_toArray, List.set_cons_zero, List.set_cons_succ]
      refine wpL_pure (.bool true) rfl (run_eqi Try.underlying35 rfl rfl rfl (by have := E1.out; rw [decide_eq_true_eq]; omega)) ?_
      simp only [Act.put, List.setIfInBounds_toArray, List.set_cons_zero, List.set_cons_succ]
      refine wpL_pure (.bool true) rfl (by kernel_rfl) ?_
      simp only [Act.put, List.setIfInBounds_toArray, List.set_cons_zero, List.set_cons_succ]
      refine wpL_pure (.pointer (some ⟨g2, 1, none⟩)) rfl (by kernel_rfl) ?_
      simp only [Act.put, List.setIfInBounds_toArray, List.set_cons_zero, List.set_cons_succ]
      refine wpL_pure (.agg (u8l nt).toArray) rfl (run_load_mid _ _ _ 32 _ rfl g2 1 rfl (u8l nt) _ (st_note F2.out.2.1) Try.underlying32 rfl (by simp only [List.size_toArray, u8l_len, HN.out.1.1] <;> kernel_rfl)) ?_
      simp only [Act.put, List.setIfInBounds_toArray, List.set_cons_zero, List.set_cons_succ]
      refine wpL_pure (.pointer (some ⟨g3, 1, none⟩)) rfl (by kernel_rfl) ?_
      simp only [Act.put, List.setIfInBounds_toArray, List.set_cons_zero, List.set_cons_succ]
      refine wpL_pure (.agg (u8l nt2).toArray) rfl (run_load_mid _ _ _ 32 _ rfl g3 1 rfl (u8l nt2) _ (st_note F2.out.2.2.1) Try.underlying32 rfl (by simp only [List.size_toArray, u8l_len, HN.out.2.1] <;> kernel_rfl)) ?_
      simp only [Act.put, List.setIfInBounds_toArray, List.set_cons_zero, List.set_cons_succ]
      refine wpL_pure (.bool true) rfl ((run_eq16 _ _ _ _ _ nt nt2 HN.out.1.1 HN.out.2.1 rfl rfl rfl).trans (by rw [decide_eq_true E2.out])) ?_
      simp only [Act.put, List.setIfInBounds_toArray, List.set_cons_zero, List.set_cons_succ]
      refine wpL_pure (.bool true) rfl (by kernel_rfl) ?_
      simp only [Act.put, List.setIfInBounds_toArray, List.set_cons_zero, List.set_cons_succ]
      refine wpL_pure (.bool true) rfl (by kernel_rfl) ?_
      simp only [Act.put, List.setIfInBounds_toArray, List.set_cons_zero, List.set_cons_succ]
      refine wpL_pure (.pointer (some ⟨g2, 17, none⟩)) rfl (by kernel_rfl) ?_
      simp only [Act.put, List.setIfInBounds_toArray, List.set_cons_zero, List.set_cons_succ]
      refine wpL_pure (.slice a n ca) rfl (run_load_one _ _ _ 26 _ _ rfl (g2) (17) rfl (st_last F2.out.2.1 HN.out.1) (by kernel_rfl)) ?_
      simp only [Act.put, List.setIfInBounds_toArray, List.set_cons_zero, List.set_cons_succ]
      refine wpL_pure (.string (strOfNums xs)) rfl (run_conv_str _ _ _ _ a n ca xs rfl rfl F2.out.2.2.2.1) ?_
      simp only [Act.put, List.setIfInBounds_toArray, List.set_cons_zero, List.set_cons_succ]
      refine wpL_pure (.pointer (some ⟨g3, 17, none⟩)) rfl (by kernel_rfl) ?_
      simp only [Act.put, List.setIfInBounds_toArray, List.set_cons_zero, List.set_cons_succ]
      refine wpL_pure (.slice a2 n2 ca2) rfl (run_load_one _ _ _ 26 _ _ rfl (g3) (17) rfl (st_last F2.out.2.2.1 HN.out.2) (by kernel_rfl)) ?_
      simp only [Act.put, List.setIfInBounds_toArray, List.set_cons_zero, List.set_cons_succ]
      refine wpL_pure (.string (strOfNums ys)) rfl (run_conv_str _ _ _ _ a2 n2 ca2 ys rfl rfl F2.out.2.2.2.2) ?_
      simp only [Act.put, List.setIfInBounds_toArray, List.set_cons_zero, List.set_cons_succ]
      refine wpL_pure (.bool (decide (xs = ys))) rfl (run_str_eql _ _ _ _ _ xs ys _ rfl rfl rfl rfl HX.out.2.2.1 HY.out.2.2.1) ?_
      simp only [Act.put, List.setIfInBounds_toArray, List.set_cons_zero, List.set_cons_succ]
      refine wpL_pure (.bool (decide (xs = ys))) rfl (by kernel_rfl) ?_
      simp only [Act.put, List.setIfInBounds_toArray, List.set_cons_zero, List.set_cons_succ]
      refine wpL_pure (.bool (decide (xs = ys))) rfl (by kernel_rfl) ?_
      simp only [Act.put, List.setIfInBounds_toArray, List.set_cons_zero, List.set_cons_succ]
      go_wp2_with fail
      go_ret
      exact ⟨by rw [decide_eq_true E1.out, decide_eq_true E2.out]; rfl, F2.out.1⟩
    · have E2 := Lib.hid h2
      clear h2
      go_upto_region 1 with (fail)
      refine wp_region_lit ?_
      refine wpL_pure (.pointer (some ⟨g2, 0, none⟩)) rfl (by kernel_rfl) ?_
      simp only [Act.put, List.setIfInBounds_toArray, List.set_cons_zero, List.set_cons_succ]
      refine wpL_pure (.int .u64 ((s : Nat) : Int)) rfl (run_load_one _ _ _ 35 _ _ rfl (g2) (0) rfl (by rw [F2.out.2.1.cell]; rfl) (by kernel_rfl)) ?_
      simp only [Act.put, List.setIfInBounds_toArray, List.set_cons_zero, List.set_cons_succ]
      refine wpL_pure (.pointer (some ⟨g3, 0, none⟩)) rfl (by kernel_rfl) ?_
      simp only [Act.put, List.setIfInBounds_toArray, List.set_cons_zero, List.set_cons_succ]
      refine wpL_pure (.int .u64 ((s2 : Nat) : Int)) rfl (run_load_one _ _ _ 35 _ _ rfl (g3) (0) rfl (by rw [F2.out.2.2.1.cell]; rfl) (by kernel_rfl)) ?_
      simp only [Act.put, List.setIfInBounds_toArray, List.set_cons_zero, List.set_cons_succ]
      refine wpL_pure (.bool true) rfl (run_eqi Try.underlying35 rfl rfl rfl (by have := E1.out; rw [decide_eq_true_eq]; omega)) ?_
      simp only [Act.put, List.setIfInBounds_toArray, List.set_cons_zero, List.set_cons_succ]
      refine wpL_pure (.bool true) rfl (by kernel_rfl) ?_
      simp only [Act.put, List.setIfInBounds_toArray, List.set_cons_zero, List.set_cons_succ]
      refine wpL_pure (.pointer (some ⟨g2, 1, none⟩)) rfl (by kernel_rfl) ?_
      simp only [Act.put, List.setIfInBounds_toArray, List.set_cons_zero, List.set_cons_succ]
      refine wpL_pure (.agg (u8l nt).toArray) rfl (run_load_mid _ _ _ 32 _ rfl g2 1 rfl (u8l nt) _ (st_note F2.out.2.1) Try.underlying32 rfl (by simp only [List.size_toArray, u8l_len, HN.out.1.1] <;> kernel_rfl)) ?_
      simp only [Act.put, List.setIfInBounds_toArray, List.set_cons_zero, List.set_cons_succ]
      refine wpL_pure (.pointer (some ⟨g3, 1, none⟩)) rfl (by kernel_rfl) ?_
      simp only [Act.put, List.setIfInBounds_toArray, List.set_cons_zero, List.set_cons_succ]
      refine wpL_pure (.agg (u8l nt2).toArray) rfl (run_load_mid _ _ _ 32 _ rfl g3 1 rfl (u8l nt2) _ (st_note F2.out.2.2.1) Try.underlying32 rfl (by simp only [List.size_toArray, u8l_len, HN.out.2.1] <;> kernel_rfl)) ?_
      simp only [Act.put, List.setIfInBounds_toArray, List.set_cons_zero, List.set_cons_succ]
      refine wpL_pure (.bool false) rfl ((run_eq16 _ _ _ _ _ nt nt2 HN.out.1.1 HN.out.2.1 rfl rfl rfl).trans (by rw [decide_eq_false E2.out])) ?_
      simp only [Act.put, List.setIfInBounds_toArray, List.set_cons_zero, List.set_cons_succ]
      refine wpL_pure (.bool false) rfl (by kernel_rfl) ?_
      simp only [Act.put, List.setIfInBounds_toArray, List.set_cons_zero, List.set_cons_succ]
      refine wpL_pure (.bool false) rfl (by kernel_rfl) ?_
      simp only [Act.put, List.setIfInBounds_toArray, List.set_cons_zero, List.set_cons_succ]
      refine wpL_skip (by kernel_rfl) ?_
      simp only [Act.put, List.setIfInBounds_toArray, List.set_cons_zero, List.set_cons_succ]
      refine wpL_skip (by kernel_rfl) ?_
      simp only [Act.put, List.setIfInBounds_toArray, List.set_cons_zero, List.set_cons_succ]
      refine wpL_skip (by kernel_rfl) ?_
      simp only [Act.put, List.setIfInBounds_toArray, List.set_cons_zero, List.set_cons_succ]
      refine wpL_skip (by kernel_rfl) ?_
      simp only [Act.put, List.setIfInBounds_toArray, List.set_cons_zero, List.set_cons_succ]
      refine wpL_skip (by kernel_rfl) ?_
      simp only [Act.put, List.setIfInBounds_toArray, List.set_cons_zero, List.set_cons_succ]
      refine wpL_skip (by kernel_rfl) ?_
      simp only [Act.put, List.setIfInBounds_toArray, List.set_cons_zero, List.set_cons_succ]
      refine wpL_skip (by kernel_rfl) ?_
      simp only [Act.put, List.setIfInBounds_toArray, List.set_cons_zero, List.set_cons_succ]
      refine wpL_pure (.bool false) rfl (by kernel_rfl) ?_
      simp only [Act.put, List.setIfInBounds_toArray, List.set_cons_zero, List.set_cons_succ]
      refine wpL_pure (.bool false) rfl (by kernel_rfl) ?_
      simp only [Act.put, List.setIfInBounds_toArray, List.set_cons_zero, List.set_cons_succ]
      go_wp2_with fail
      go_ret
      exact ⟨by rw [decide_eq_true E1.out, decide_eq_false E2.out]; rfl, F2.out.1⟩
  · have E1 := Lib.hid h1
    clear h1
    go_upto_region 1 with (fail)
    refine wp_region_lit ?_
    refine wpL_pure (.pointer (some ⟨g2, 0, none⟩)) rfl (by kernel_rfl) ?_
    simp only [Act.put, List.setIfInBounds_toArray, List.set_cons_zero, List.set_cons_succ]
    refine wpL_pure (.int .u64 ((s : Nat) : Int)) rfl (run_load_one _ _ _ 35 _ _ rfl (g2) (0) rfl (by rw [F2.out.2.1.cell]; rfl) (by kernel_rfl)) ?_
    simp only [Act.put, List.setIfInBounds_toArray, List.set_cons_zero, List.set_cons_succ]
    refine wpL_pure (.pointer (some ⟨g3, 0, none⟩)) rfl (by kernel_rfl) ?_
    simp only [Act.put, List.setIfInBounds_toArray, List.set_cons_zero, List.set_cons_succ]
    refine wpL_pure (.int .u64 ((s2 : Nat) : Int)) rfl (run_load_one _ _ _ 35 _ _ rfl (g3) (0) rfl (by rw [F2.out.2.2.1.cell]; rfl) (by kernel_rfl)) ?_
    simp only [Act.put, List.setIfInBounds_toArray, List.set_cons_zero, List.set_cons_succ]
    refine wpL_pure (.bool false) rfl (run_eqi Try.underlying35 rfl rfl rfl (by have := E1.out; rw [decide_eq_false_iff_not]; omega)) ?_
    simp only [Act.put, List.setIfInBounds_toArray, List.set_cons_zero, List.set_cons_succ]
    refine wpL_pure (.bool false) rfl (by kernel_rfl) ?_
    simp only [Act.put, List.setIfInBounds_toArray, List.set_cons_zero, List.set_cons_succ]
    refine wpL_skip (by kernel_rfl) ?_
    simp only [Act.put, List.setIfInBounds_toArray, List.set_cons_zero, List.set_cons_succ]
    refine wpL_skip (by kernel_rfl) ?_
    simp only [Act.put, List.setIfInBounds_toArray, List.set_cons_zero, List.set_cons_succ]
    refine wpL_skip (by kernel_rfl) ?_
    simp only [Act.put, List.setIfInBounds_toArray, List.set_cons_zero, List.set_cons_succ]
    refine wpL_skip (by kernel_rfl) ?_
    simp only [Act.put, List.setIfInBounds_toArray, List.set_cons_zero, List.set_cons_succ]
    refine wpL_skip (by kernel_rfl) ?_
    simp only [Act.put, List.setIfInBounds_toArray, List.set_cons_zero, List.set_cons_succ]
    refine wpL_pure (.bool false) rfl (by kernel_rfl) ?_
    simp only [Act.put, List.setIfInBounds_toArray, List.set_cons_zero, List.set_cons_succ]
    refine wpL_pure (.bool false) rfl (by kernel_rfl) ?_
    simp only [Act.put, List.setIfInBounds_toArray, List.set_cons_zero, List.set_cons_succ]
    refine wpL_skip (by kernel_rfl) ?_
    simp only [Act.put, List.setIfInBounds_toArray, List.set_cons_zero, List.set_cons_succ]
    refine wpL_skip (by kernel_rfl) ?_
    simp only [Act.put, List.setIfInBounds_toArray, List.set_cons_zero, List.set_cons_succ]
    refine wpL_skip (by kernel_rfl) ?_
    simp only [Act.put, List.setIfInBounds_toArray, List.set_cons_zero, List.set_cons_succ]
    refine wpL_skip (by kernel_rfl) ?_
    simp only [Act.put, List.setIfInBounds_toArray, List.set_cons_zero, List.set_cons_succ]
    refine wpL_skip (by kernel_rfl) ?_
    simp only [Act.put, List.setIfInBounds_toArray, List.set_cons_zero, List.set_cons_succ]
    refine wpL_skip (by kernel_rfl) ?_
    simp only [Act.put, List.setIfInBounds_toArray, List.set_cons_zero, List.set_cons_succ]
    refine wpL_skip (by kernel_rfl) ?_
    simp only [Act.put, List.setIfInBounds_toArray, List.set_cons_zero, List.set_cons_succ]
    refine wpL_pure (.bool false) rfl (by kernel_rfl) ?_
    simp only [Act.put, List.setIfInBounds_toArray, List.set_cons_zero, List.set_cons_succ]
    refine wpL_pure (.bool false) rfl (by kernel_rfl) ?_
    simp only [Act.put, List.setIfInBounds_toArray, List.set_cons_zero, List.set_cons_succ]
    go_wp2_with fail
    go_ret
    exact ⟨by rw [decide_eq_false E1.out]; rfl, F2.out.1⟩
end Go.Proofs.Yteabblmhcjpboaa.D
