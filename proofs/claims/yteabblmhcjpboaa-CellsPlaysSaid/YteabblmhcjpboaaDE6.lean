/- Crash. -/
import Derived.Test.YteabblmhcjpboaaDE5
import Derived.Test.YteabblmhcjpboaaDK2
namespace Go.Proofs.Yteabblmhcjpboaa.D
open Go Go.RowKit
set_option maxRecDepth 100000
/-- how many bytes of what is new stay in the j-th loose sector. -/
def fateN (F : List Int) (j : Nat) : Nat := if F.length = 0 then 0 else (F.getD (j % F.length) 0).toNat
def valOf (L : List (Int × List Int × Nat)) (k : Int) : List Int := ((L.find? fun e => e.1 == k).map (·.2.1)).getD []
def crStep (F : List Int) (L : List (Int × List Int × Nat)) (S : List (List Int)) (j : Nat) (k : Int) : List (List Int) := S.set k.toNat (tornV (valOf L k) (S.getD k.toNat []) (fateN F j))
def crS (F : List Int) (L : List (Int × List Int × Nat)) (ks : List Int) (S : List (List Int)) : Nat → List (List Int)
  | 0 => S
  | j + 1 => crStep F L (crS F L ks S j) j (ks.getD j 0)
theorem valOf_mem : ∀ {L : List (Int × List Int × Nat)}, (L.map (·.1)).Nodup → ∀ {k : Int} {s : List Int} {br : Nat}, (k, s, br) ∈ L → valOf L k = s
  | [], _, _, _, _, h => by simp at h
  | e :: L, hd, k, s, br, h => by
    simp only [List.map_cons, List.nodup_cons] at hd
    rcases List.mem_cons.1 h with q | q
    · subst q
      simp [valOf, List.find?]
    · have hne : ¬ e.1 = k := fun x => hd.1 (List.mem_map.2 ⟨_, q, x.symm⟩)
      have r := valOf_mem hd.2 q
      unfold valOf at r ⊢
      rw [List.find?_cons_of_neg (by simpa using hne)]
      exact r
theorem cr_step {F : List Int} {L : List (Int × List Int × Nat)} {ks : List Int} {S : List (List Int)} {j kk br kf : Nat} {s t0 : List Int} (hd : (L.map (·.1)).Nodup) (hm : ((kk : Int), s, br) ∈ L) (hk : ks.getD j 0 = (kk : Int)) (ht : S[kk]? = some t0) (hf : fateN F j = kf) :
    crStep F L S j (ks.getD j 0) = S.set kk (tornV s t0 kf) := by
  unfold crStep
  rw [hk, Int.toNat_natCast, valOf_mem hd hm, hf, List.getD, ht]
  rfl
theorem fate_none {F : List Int} {j : Nat} (h : F.length = 0) : fateN F j = 0 := by rw [fateN, if_pos h]
theorem fate_some {w : World} {a : Option Addr} {F : List Int} {q j jr : Nat} (h : Row w a q F) (hj : j % q = jr) (hq : jr < q) : fateN F j = fateN F j ∧ fateN F j < 256 ∧ F.getD jr 0 = (fateN F j : Int) := by
  have h1 := getD_byte h.2.2.1 jr
  have e : fateN F j = (F.getD jr 0).toNat := by rw [fateN, if_neg (by rw [h.1]; omega), h.1, hj]
  rw [e]
  omega
theorem sorted_ints (ss : List Int) : (ss.mergeSort (fun x y => decide (x ≤ y))).Pairwise (· ≤ ·) := by
  have q := List.pairwise_mergeSort (le := fun (x y : Int) => decide (x ≤ y)) (fun a b c h1 h2 => by simp at h1 h2 ⊢; omega) (fun a b => by simp; omega) ss
  exact q.imp (fun h => by simpa using h)
/-- a row of ints. -/
def KRow (w : World) (a : Option Addr) (m : Nat) (ks : List Int) : Prop := m ≤ maxLen ∧ ∀ j, j < m → ∃ g, a = some ⟨g, 0, none⟩ ∧ w.cell? ⟨g, j, none⟩ = some (.int .i64 (ks.getD j 0))
def KFar (b gs gm : Nat) (a : Option Addr) : Prop := ∀ p, a = some p → p.block ≠ b ∧ p.block ≠ gs ∧ p.block ≠ gm
theorem cell_lt {w : World} {p : Addr} {v : Value} (h : w.cell? p = some v) : p.block < w.heap.size := by
  rcases Nat.lt_or_ge p.block w.heap.size with q | q
  · exact q
  · simp [World.cell?, Array.getElem?_eq_none q] at h
theorem KRow.keep {w w' : World} {a : Option Addr} {m : Nat} {ks : List Int} (h : KRow w a m ks) (hb : Below w.heap.size w w') : KRow w' a m ks := ⟨h.1, fun j hj => by
  obtain ⟨g, e, hc⟩ := h.2 j hj
  exact ⟨g, e, by rw [hb.cell (cell_lt hc)]; exact hc⟩⟩
theorem KRow.far {w w' : World} {a : Option Addr} {m r : Nat} {ks : List Int} (h : KRow w a m ks) (q : w.grownBy w' (some r)) (hr : ∀ p, a = some p → p.block ≠ r) : KRow w' a m ks := ⟨h.1, fun j hj => by
  obtain ⟨g, e, hc⟩ := h.2 j hj
  exact ⟨g, e, by rw [World.cell?_of_block (q.block g (cell_lt hc) (by simpa using hr _ e))]; exact hc⟩⟩
theorem row_far {w w' : World} {a : Option Addr} {m r : Nat} {xs : List Int} (h : Row w a m xs) (q : w.grownBy w' (some r)) (hr : ∀ p, a = some p → p.block ≠ r) : Row w' a m xs := ⟨h.1, h.2.1, h.2.2.1, fun j hj => by
  obtain ⟨g, o, e, hc⟩ := h.2.2.2 j hj
  exact ⟨g, o, e, by rw [World.cell?_of_block (q.block g (cell_lt hc) (by simpa using hr _ e))]; exact hc⟩⟩
theorem row_zero {w w' : World} {a : Option Addr} {m : Nat} {xs : List Int} (h : Row w a m xs) (hm : m = 0) : Row w' a m xs := ⟨h.1, h.2.1, h.2.2.1, fun j hj => by omega⟩
theorem krow_of {w : World} {base m : Nat} {v : Value} {ks : List Int} (h : w.ownsRow base 3 1 v m (ks.map Go.encZ)) : ∃ a c, v = .slice a m c ∧ KRow w a m ks ∧ ∀ p, a = some p → base ≤ p.block := by
  have hl : ks.length = m := by have := h.1; simpa using this
  rcases h.2 with ⟨rfl, rfl⟩ | ⟨g, cap, cur, rfl, hg, hh, h1, h2, h3, h4⟩
  · exact ⟨none, 0, rfl, ⟨by simp, fun j hj => by omega⟩, fun p hp => by cases hp⟩
  · refine ⟨_, _, rfl, ⟨by omega, fun j hj => ⟨g, rfl, ?_⟩⟩, fun p hp => by cases hp; exact hg⟩
    rw [cell_of_row _ _ _ _ _ _ hh]
    have e : (cur.toList.take (m * 1))[j]? = (ks.map Go.encZ)[j]? := by rw [h4]
    rw [Nat.mul_one, List.getElem?_take, if_pos hj, List.getElem?_map, List.getElem?_eq_getElem (show j < ks.length by omega)] at e
    rw [← Array.getElem?_toList, e]
    simp [Go.encZ, List.getD, List.getElem?_eq_getElem (show j < ks.length by omega)]
theorem DS.lts {w : World} {b gs gm n c : Nat} {L : List (Int × List Int × Nat)} {S : List (List Int)} {fu go : Bool} {fz : Int} (h : DS w b gs gm n L c S fu fz go) : b < w.heap.size ∧ gs < w.heap.size ∧ gm < w.heap.size := ⟨h.1.lt, h.2.1.lt, h.2.2.2.2.2.2.1⟩
theorem key_at {n c j : Nat} {L : List (Int × List Int × Nat)} {ks : List Int} (h : LOk n c L) (hp : ks.Perm (L.map (·.1))) (hj : j < ks.length) : ∃ (kk : Nat) (s : List Int) (br : Nat), ks.getD j 0 = (kk : Int) ∧ ((kk : Int), s, br) ∈ L ∧ kk < n := by
  have hm : ks.getD j 0 ∈ L.map (·.1) := hp.mem_iff.1 (by simp [List.getD, List.getElem?_eq_getElem hj])
  obtain ⟨e, he, hk⟩ := List.mem_map.1 hm
  have q := h.1 e he
  refine ⟨e.1.toNat, e.2.1, e.2.2, ?_, ?_, ?_⟩
  · rw [← hk]; omega
  · have : ((e.1.toNat : Nat) : Int) = e.1 := by omega
    rw [this]; exact he
  · omega
theorem run_idx60 (a : Act) (o : Oper) (w : World) (x i : Operand) (g off n c k : Nat) (ho : o.op = .indexAddr 81 x i) (hx : a.eval x = .slice (some ⟨g, off, none⟩) n c) (hi : a.eval i = .int .i64 (k : Int)) (hk : k < n) (hn : n ≤ maxLen) :
    (execOp a.eval o).run Try.prog w = .ok (.value (.pointer (some ⟨g, off + k, none⟩))) w := by
  unfold maxLen at hn
  have j0 : (0 : Int) ≤ (k : Int) := by omega
  have j1 : (k : Int) < (n : Int) := by omega
  have j2 : (k : Int) < 9223372036854775808 := by omega
  unfold execOp
  simp only [ho, hx, hi]
  go_simp
theorem run_remn (a : Act) (o : Oper) (w : World) (x y : Operand) (p q m : Nat) (ho : o.op = .binOp .rem 3 x y 3) (hx : a.eval x = .int .i64 (p : Int)) (hy : a.eval y = .int .i64 ((q : Nat) : Int)) (hq : 0 < q) (hm : p % q = m) : (execOp a.eval o).run Try.prog w = .ok (.value (.int .i64 ((m : Nat) : Int))) w := by
  subst hm
  have h0 : (0 : Int) ≤ (p : Int) := by omega
  have h1 : (0 : Int) < (q : Int) := by omega
  have h2 : ((p : Int)).tmod (q : Int) = ((p % q : Nat) : Int) := by rw [Int.tmod_eq_emod_of_nonneg h0]; rfl
  unfold execOp
  simp only [ho, hx, hy]
  go_simp
  omega
def CPost (b gs gm n c : Nat) (L : List (Int × List Int × Nat)) (S : List (List Int)) (fz : Int) (F : List Int) (w : World) (e : Ending) (w' : World) : Prop :=
  e = .returned (.tuple #[]) ∧ ∃ ks : List Int, ks.Perm (L.map (·.1)) ∧ ks.Pairwise (· ≤ ·) ∧ DS w' b gs gm n [] c (crS F L ks S ks.length) false fz false ∧ Fd b gs gm w w'
attribute [local irreducible] wpList in
set_option maxHeartbeats 4000000 in
set_option maxRecDepth 100000 in
theorem crash0 {w : World} {b gs gm n c : Nat} {L : List (Int × List Int × Nat)} {S : List (List Int)} {fu go : Bool} {fz : Int} (h : DS w b gs gm n L c S fu fz go) (a : Option Addr) (q cx : Nat) (F : List Int) (hr : Row w a q F) (hq : q = 0) :
    Calls Try.prog 26 #[.pointer (some ⟨b, 0, none⟩), .slice a q cx] w fun e w' => CPost b gs gm n c L S fz F w e w' := by
  have HN := Lib.hid h.2.2.2.2.1
  have HLM : Hid (∀ ks : List Int, ks.Perm (L.map (·.1)) → ks.length ≤ 200) := Lib.hid (fun ks hk => by have h1 := hk.length_eq; have h2 := h.2.2.2.2.2.2.2.1.len; have h3 := h.2.2.2.2.1; simp at h1; omega)
  have HD := Lib.hid h
  have HR := Lib.hid hr
  have QE := Lib.hid hq
  clear h hr hq
  go_enter Try.func26, Try.ntmps26
  go_upto_region 0 with (fail)
  refine wp_region_lit ?_
  refine wpL_pure (.pointer (some ⟨b, 0, none⟩)) rfl (by kernel_rfl) ?_
  simp only [Act.put, List.setIfInBounds_toArray, List.set_cons_zero, List.set_cons_succ]
  refine wpL_pure (.pointer (some ⟨b, 0, none⟩)) rfl (by kernel_rfl) ?_
  simp only [Act.put, List.setIfInBounds_toArray, List.set_cons_zero, List.set_cons_succ]
  refine wpL_pure (.pointer (some ⟨b, 1, none⟩)) rfl (by kernel_rfl) ?_
  simp only [Act.put, List.setIfInBounds_toArray, List.set_cons_zero, List.set_cons_succ]
  refine wpL_pure (.map (some gm)) rfl (run_load_one _ _ _ 60 _ _ rfl (b) (1) rfl (by rw [HD.out.cells.2.1]) (by kernel_rfl)) ?_
  simp only [Act.put, List.setIfInBounds_toArray, List.set_cons_zero, List.set_cons_succ]
  refine wpL_call 42 #[.map (some gm)] rfl (by kernel_rfl) ((keys_call (some gm) w).mono ?_)
  rintro e w1 ⟨rfl, rfl⟩
  refine ⟨_, rfl, ?_⟩
  simp only [Act.put, List.setIfInBounds_toArray, List.set_cons_zero, List.set_cons_succ]
  refine wpL_call 41 #[.func (.func 54) #[] #[.pointer (some ⟨w.heap.size, 0, none⟩)]] rfl (by kernel_rfl) ((sorted_call gm n c L w HD.out.2.2.2.2.2.2.2.1 HD.out.2.2.2.2.1 HD.out.2.2.1).mono ?_)
  rintro e W1 ⟨vv, ss, rfl, hp, hrow, _, hb⟩
  obtain ⟨ks, hks⟩ : ∃ q, ss.mergeSort (fun x y => decide (x ≤ y)) = q := ⟨_, rfl⟩
  obtain ⟨m, hm⟩ : ∃ q, ss.length = q := ⟨_, rfl⟩
  rw [hks, hm] at hrow
  have hk : ks.Perm (L.map (·.1)) := by rw [← hks]; exact (List.mergeSort_perm _ _).trans hp
  have hkl : ks.length = m := by rw [← hks, List.length_mergeSort]; exact hm
  have hso : ks.Pairwise (· ≤ ·) := by rw [← hks]; exact sorted_ints ss
  have bb : Below w.heap.size w W1 := ((Below.refl _ _).alloc (Nat.le_refl _) _).trans (hb.mono (by simp))
  obtain ⟨v, cv, rfl, kr⟩ := krow_of hrow
  have F1 : Hid ((DS W1 b gs gm n L c (S) fu fz go ∧ Fd b gs gm w W1 ∧ KRow W1 v m ks ∧ Row W1 a q F) ∧ KFar b gs gm v) := Lib.hid ⟨⟨HD.out.below bb, Fd.of bb, kr.1, HR.out.keep bb⟩, fun p hp => by have h1 := kr.2 p hp; have h2 := HD.out.lts; simp at h1; refine ⟨?_, ?_, ?_⟩ <;> omega⟩
  have HKS : Hid (ks.Perm (L.map (·.1)) ∧ ks.length = m) := Lib.hid ⟨hk, hkl⟩
  have HSO := Lib.hid hso
  clear hp hrow hb hks hm hk hkl hso bb kr
  refine ⟨_, rfl, ?_⟩
  simp only [Act.put, List.setIfInBounds_toArray, List.set_cons_zero, List.set_cons_succ]
  refine wpL_pure (.int .i64 (m : Int)) rfl (by kernel_rfl) ?_
  simp only [Act.put, List.setIfInBounds_toArray, List.set_cons_zero, List.set_cons_succ]
  refine wpL_pure (.int .i64 0) rfl (by kernel_rfl) ?_
  simp only [Act.put, List.setIfInBounds_toArray, List.set_cons_zero, List.set_cons_succ]
  unfold wpList
  go_wp2_with fail
  go_loopw [14] (fun s14 wr => ∃ (j : Nat), s14 = .int .i64 (j : Int) ∧ Hid (j ≤ m ∧ DS wr b gs gm n L c (crS F L ks S j) fu fz go ∧ Fd b gs gm w wr ∧ KRow wr v m ks ∧ Row wr a q F)) (fun s14 _ => m - (intOf s14).toNat)
  case atStart => exact ⟨0, rfl, Lib.hid ⟨Nat.zero_le _, F1.out.1⟩⟩
  case round =>
    obtain ⟨j, rfl, RI⟩ := hrel
    by_cases hlt : j < m
    · have HJ := Lib.hid hlt
      clear hlt
      obtain ⟨g9, hg9, hkc⟩ := RI.out.2.2.2.1.2 j HJ.out
      subst hg9
      obtain ⟨kk, s, br, hkk, hmem, hkn⟩ := key_at HD.out.2.2.2.2.2.2.2.1 HKS.out.1 (by rw [HKS.out.2]; exact HJ.out)
      rw [hkk] at hkc
      have KC := Lib.hid hkc
      have KK := Lib.hid hkk
      have ME := Lib.hid hmem
      have KN := Lib.hid hkn
      have SO : Hid (SOk s) := Lib.hid (HD.out.2.2.2.2.2.2.2.1.1 _ hmem).2.2.1
      obtain ⟨t0, ht0, ot0⟩ := RI.out.2.1.at KN.out
      have T0 := Lib.hid ht0
      have OT := Lib.hid ot0
      clear hkc hkk hmem hkn ht0 ot0
      go_upto_region 1 with (fail)
      refine wp_region_lit ?_
      refine wpL_pure (.bool true) rfl (run_lti Try.underlying3 rfl rfl rfl (by have := HJ.out; rw [decide_eq_true_eq]; omega)) ?_
      simp only [Act.put, List.setIfInBounds_toArray, List.set_cons_zero, List.set_cons_succ]
      go_upto_region 2 with (fail)
      refine wp_region_lit ?_
      refine wpL_pure (.int .i64 (j : Int)) rfl (by kernel_rfl) ?_
      simp only [Act.put, List.setIfInBounds_toArray, List.set_cons_zero, List.set_cons_succ]
      refine wpL_pure (.pointer (some ⟨g9, 0 + j, none⟩)) rfl (run_idx60 _ _ _ _ _ g9 0 m cv j rfl rfl rfl HJ.out RI.out.2.2.2.1.1) ?_
      simp only [Act.put, List.setIfInBounds_toArray, List.set_cons_zero, List.set_cons_succ]
      refine wpL_pure (.int .i64 (kk : Int)) rfl (run_load_one _ _ _ 3 _ _ rfl g9 (0 + j) rfl (by rw [Nat.zero_add]; exact KC.out) (by kernel_rfl)) ?_
      simp only [Act.put, List.setIfInBounds_toArray, List.set_cons_zero, List.set_cons_succ]
      refine wpL_pure (.int .i64 (j : Int)) rfl (by kernel_rfl) ?_
      simp only [Act.put, List.setIfInBounds_toArray, List.set_cons_zero, List.set_cons_succ]
      refine wpL_pure (.int .i64 (kk : Int)) rfl (by kernel_rfl) ?_
      simp only [Act.put, List.setIfInBounds_toArray, List.set_cons_zero, List.set_cons_succ]
      go_upto_region 3 with (fail)
      refine wp_region_lit ?_
      refine wpL_pure (.int .i64 0) rfl (by kernel_rfl) ?_
      simp only [Act.put, List.setIfInBounds_toArray, List.set_cons_zero, List.set_cons_succ]
      go_upto_region 4 with (fail)
      refine wp_region_lit ?_
      refine wpL_pure (.slice a q cx) rfl (by kernel_rfl) ?_
      simp only [Act.put, List.setIfInBounds_toArray, List.set_cons_zero, List.set_cons_succ]
      refine wpL_pure (.int .i64 (q : Int)) rfl (by kernel_rfl) ?_
      simp only [Act.put, List.setIfInBounds_toArray, List.set_cons_zero, List.set_cons_succ]
      refine wpL_pure (.bool false) rfl (run_gti Try.underlying3 rfl rfl rfl (by rw [QE.out]; decide)) ?_
      simp only [Act.put, List.setIfInBounds_toArray, List.set_cons_zero, List.set_cons_succ]
      obtain ⟨kf, hkf⟩ : ∃ q, fateN F j = q := ⟨_, rfl⟩
      have KF : Hid (fateN F j = kf ∧ kf < 256 ∧ kf = 0) := Lib.hid (by subst hkf; exact ⟨rfl, by rw [fate_none (HR.out.1.trans QE.out)]; decide, fate_none (HR.out.1.trans QE.out)⟩)
      clear hkf
      obtain ⟨s6, hs6⟩ : ∃ q, Value.int .i64 0 = q := ⟨_, rfl⟩
      have e6 : s6 = .int .i64 (kf : Int) := by rw [← hs6, KF.out.2.2]; rfl
      go_upto_region 6 with (fail)
      refine region_held (fun X => DS X b gs gm n L c (crS F L ks S j) fu fz go ∧ Fd b gs gm w X ∧ KRow X (some ⟨g9, 0, none⟩) m ks ∧ Row X a q F) 20 (by kernel_rfl) (by kernel_rfl) (by exact ⟨RI.out.2.1.drewD, RI.out.2.2.1.drewF, RI.out.2.2.2.1, RI.out.2.2.2.2⟩) ?_
      simp only [List.take_succ_cons, List.take_zero, List.drop_succ_cons, List.drop_zero]
      refine wpHeld_cons (.pointer (some ⟨b, 0, none⟩)) rfl (fun w h => heldRun_value (by kernel_rfl) h) ?_
      simp only [Act.put, List.setIfInBounds_toArray, List.set_cons_zero, List.set_cons_succ]
      refine wpHeld_cons (.pointer (some ⟨b, 0, none⟩)) rfl (fun w h => heldRun_value (by kernel_rfl) h) ?_
      simp only [Act.put, List.setIfInBounds_toArray, List.set_cons_zero, List.set_cons_succ]
      refine wpHeld_cons (.pointer (some ⟨b, 0, none⟩)) rfl (fun w h => heldRun_value (by kernel_rfl) h) ?_
      simp only [Act.put, List.setIfInBounds_toArray, List.set_cons_zero, List.set_cons_succ]
      refine wpHeld_cons (.slice (some ⟨gs, 0, none⟩) n n) rfl (fun w h => heldRun_value (run_load_one _ _ _ 59 _ _ rfl (b) (0) rfl (by rw [h.1.cells.1]) (by kernel_rfl)) h) ?_
      simp only [Act.put, List.setIfInBounds_toArray, List.set_cons_zero, List.set_cons_succ]
      refine wpHeld_cons (.int .i64 (kk : Int)) rfl (fun w h => heldRun_value (by kernel_rfl) h) ?_
      simp only [Act.put, List.setIfInBounds_toArray, List.set_cons_zero, List.set_cons_succ]
      refine wpHeld_cons (.pointer (some ⟨b, 0, none⟩)) rfl (fun w h => heldRun_value (by kernel_rfl) h) ?_
      simp only [Act.put, List.setIfInBounds_toArray, List.set_cons_zero, List.set_cons_succ]
      refine wpHeld_cons (.pointer (some ⟨b, 0, none⟩)) rfl (fun w h => heldRun_value (by kernel_rfl) h) ?_
      simp only [Act.put, List.setIfInBounds_toArray, List.set_cons_zero, List.set_cons_succ]
      refine wpHeld_cons (.pointer (some ⟨b, 1, none⟩)) rfl (fun w h => heldRun_value (by kernel_rfl) h) ?_
      simp only [Act.put, List.setIfInBounds_toArray, List.set_cons_zero, List.set_cons_succ]
      refine wpHeld_cons (.map (some gm)) rfl (fun w h => heldRun_value (run_load_one _ _ _ 60 _ _ rfl (b) (1) rfl (by rw [h.1.cells.2.1]) (by kernel_rfl)) h) ?_
      simp only [Act.put, List.setIfInBounds_toArray, List.set_cons_zero, List.set_cons_succ]
      refine wpHeld_cons (.int .i64 (kk : Int)) rfl (fun w h => heldRun_value (by kernel_rfl) h) ?_
      simp only [Act.put, List.setIfInBounds_toArray, List.set_cons_zero, List.set_cons_succ]
      refine wpHeld_cons (.agg (u8l s).toArray) rfl (fun w h => heldRun_value (run_look1 _ _ _ _ _ gm c _ s br false L rfl rfl rfl h.1.2.2.1 HD.out.2.2.2.2.2.2.2.1.2.1 ME.out) h) ?_
      simp only [Act.put, List.setIfInBounds_toArray, List.set_cons_zero, List.set_cons_succ]
      refine wpHeld_cons (.pointer (some ⟨b, 0, none⟩)) rfl (fun w h => heldRun_value (by kernel_rfl) h) ?_
      simp only [Act.put, List.setIfInBounds_toArray, List.set_cons_zero, List.set_cons_succ]
      refine wpHeld_cons (.pointer (some ⟨b, 0, none⟩)) rfl (fun w h => heldRun_value (by kernel_rfl) h) ?_
      simp only [Act.put, List.setIfInBounds_toArray, List.set_cons_zero, List.set_cons_succ]
      refine wpHeld_cons (.pointer (some ⟨b, 0, none⟩)) rfl (fun w h => heldRun_value (by kernel_rfl) h) ?_
      simp only [Act.put, List.setIfInBounds_toArray, List.set_cons_zero, List.set_cons_succ]
      refine wpHeld_cons (.slice (some ⟨gs, 0, none⟩) n n) rfl (fun w h => heldRun_value (run_load_one _ _ _ 59 _ _ rfl (b) (0) rfl (by rw [h.1.cells.1]) (by kernel_rfl)) h) ?_
      simp only [Act.put, List.setIfInBounds_toArray, List.set_cons_zero, List.set_cons_succ]
      refine wpHeld_cons (.int .i64 (kk : Int)) rfl (fun w h => heldRun_value (by kernel_rfl) h) ?_
      simp only [Act.put, List.setIfInBounds_toArray, List.set_cons_zero, List.set_cons_succ]
      refine wpHeld_cons (.pointer (some ⟨gs, kk * 64, none⟩)) rfl (fun w h => heldRun_value (run_idxs _ _ _ _ _ gs n n kk rfl rfl rfl KN.out HN.out) h) ?_
      simp only [Act.put, List.setIfInBounds_toArray, List.set_cons_zero, List.set_cons_succ]
      refine wpHeld_cons (.agg (u8l t0).toArray) rfl (fun w h => heldRun_value (run_load_mid _ _ _ 77 _ rfl gs (kk * 64) rfl (u8l t0) _ (h.1.range T0.out) Try.underlying77 rfl (sz53 OT.out.1)) h) ?_
      simp only [Act.put, List.setIfInBounds_toArray, List.set_cons_zero, List.set_cons_succ]
      refine wpHeld_cons (.int .i64 0) rfl (fun w h => heldRun_value (by kernel_rfl) h) ?_
      simp only [Act.put, List.setIfInBounds_toArray, List.set_cons_zero, List.set_cons_succ]
      refine wpHeld_call (.agg (u8l (tornV s t0 0)).toArray) 43 #[.agg (u8l s).toArray, .agg (u8l t0).toArray, .int .i64 0] rfl (fun w => by kernel_rfl) (fun X h => (tornD s t0 SO.out OT.out 0 (by decide) X).mono fun e V he => ⟨he.1, h.1.below he.2, h.2.1.trans (Fd.of he.2), h.2.2.1.keep he.2, h.2.2.2.keep he.2⟩) ?_
      simp only [Act.put, List.setIfInBounds_toArray, List.set_cons_zero, List.set_cons_succ]
      refine wpHeld_nil ?_
      intro Y h
      have TH := Lib.hid (h.1.there KN.out)
      have OTV : Hid (SOk (tornV s t0 0)) := Lib.hid (tornV_ok SO.out OT.out _)
      obtain ⟨Y1, hY1⟩ : ∃ V, V = Y.setCells gs (kk * 64) (u8l (tornV s t0 0)) := ⟨_, rfl⟩
      have he : (crS F L ks S j).set kk (tornV s t0 0) = crS F L ks S (j + 1) := by rw [crS]; exact (cr_step HD.out.2.2.2.2.2.2.2.1.2.1 ME.out KK.out T0.out (KF.out.1.trans KF.out.2.2)).symm
      have F4 : Hid (j + 1 ≤ m ∧ DS Y1 b gs gm n L c (crS F L ks S (j + 1)) fu fz go ∧ Fd b gs gm w Y1 ∧ KRow Y1 (some ⟨g9, 0, none⟩) m ks ∧ Row Y1 a q F) := Lib.hid (by rw [hY1, ← he]; exact ⟨HJ.out, h.1.put kk KN.out OTV.out, h.2.1.cells _ _, h.2.2.1.far (gb_setCells _ _ _ gs) (by have := F1.out.2 _ rfl; simpa using this.2.1), row_zero h.2.2.2 QE.out⟩)
      clear h he
      refine wpL_pure (.pointer (some ⟨gs, kk * 64, none⟩)) rfl (run_idxs _ _ _ _ _ gs n n kk rfl rfl rfl KN.out HN.out) ?_
      simp only [Act.put, List.setIfInBounds_toArray, List.set_cons_zero, List.set_cons_succ]
      refine wpList_store_mid rfl 77 _ _ rfl gs (kk * 64) (u8l (tornV s t0 0)).toArray rfl rfl (by rw [show (u8l (tornV s t0 0)).toArray.size = 64 by simp [u8l, OTV.out.1]]; exact TH.out) (sz53' OTV.out.1) (all8 _) ?_
      simp only [Act.put, List.setIfInBounds_toArray, List.set_cons_zero, List.set_cons_succ]
      try simp only [List.toList_toArray]
      rw [← hY1]
      clear hY1
      go_upto_region 7 with (fail)
      refine wp_region_lit ?_
      refine wpL_pure (.int .i64 ((j + 1 : Nat) : Int)) rfl (run_addi Try.underlying3 rfl rfl rfl _ (by have := HJ.out; have := HLM.out ks HKS.out.1; have := HKS.out.2; rw [wrap_in _ (by omega) (by omega)]; omega)) ?_
      simp only [Act.put, List.setIfInBounds_toArray, List.set_cons_zero, List.set_cons_succ]
      refine wpL_pure (.int .i64 ((j + 1 : Nat) : Int)) rfl (by kernel_rfl) ?_
      simp only [Act.put, List.setIfInBounds_toArray, List.set_cons_zero, List.set_cons_succ]
      unfold wpList
      go_roundw
      case rel => first | exact ⟨j + 1, rfl, F4⟩ | ((repeat apply Exists.intro); exact ⟨⟨j + 1, rfl, F4⟩, rfl⟩)
      case measure => simp [intOf]; have := HJ.out; omega
    · have ej : j = m := by have := RI.out.1; omega
      have HJ := Lib.hid hlt
      clear hlt
      go_upto_region 1 with (fail)
      refine wp_region_lit ?_
      refine wpL_pure (.bool false) rfl (run_lti Try.underlying3 rfl rfl rfl (by have := HJ.out; rw [decide_eq_false_iff_not]; omega)) ?_
      simp only [Act.put, List.setIfInBounds_toArray, List.set_cons_zero, List.set_cons_succ]
      go_upto_region 8 with (fail)
      refine wp_region_lit ?_
      refine wpL_pure (.pointer (some ⟨b, 0, none⟩)) rfl (by kernel_rfl) ?_
      simp only [Act.put, List.setIfInBounds_toArray, List.set_cons_zero, List.set_cons_succ]
      refine wpL_pure (.pointer (some ⟨b, 0, none⟩)) rfl (by kernel_rfl) ?_
      simp only [Act.put, List.setIfInBounds_toArray, List.set_cons_zero, List.set_cons_succ]
      refine wpL_pure (.pointer (some ⟨b, 1, none⟩)) rfl (by kernel_rfl) ?_
      simp only [Act.put, List.setIfInBounds_toArray, List.set_cons_zero, List.set_cons_succ]
      refine wpL_pure (.map (some gm)) rfl (run_load_one _ _ _ 60 _ _ rfl (b) (1) rfl (by rw [RI.out.2.1.cells.2.1]) (by kernel_rfl)) ?_
      simp only [Act.put, List.setIfInBounds_toArray, List.set_cons_zero, List.set_cons_succ]
      obtain ⟨w2, hw2⟩ : ∃ V, V = setMap wr gm (.map (ents []) c) := ⟨_, rfl⟩
      refine zV (.tuple #[]) w2 (by rw [hw2]; exact run_clear _ _ _ _ gm c _ rfl rfl RI.out.2.1.2.2.1) ?_
      have F2 : Hid (DS w2 b gs gm n [] c (crS F L ks S m) fu fz go ∧ Fd b gs gm w w2) := Lib.hid (by rw [hw2, ← ej]; exact ⟨RI.out.2.1.upd [] c (LOk.nil _ _), RI.out.2.2.1.upd _⟩)
      clear hw2
      go_upto_region 9 with (fail)
      refine wp_region_lit ?_
      refine wpL_pure (.pointer (some ⟨b, 0, none⟩)) rfl (by kernel_rfl) ?_
      simp only [Act.put, List.setIfInBounds_toArray, List.set_cons_zero, List.set_cons_succ]
      refine wpL_pure (.pointer (some ⟨b, 0, none⟩)) rfl (by kernel_rfl) ?_
      simp only [Act.put, List.setIfInBounds_toArray, List.set_cons_zero, List.set_cons_succ]
      refine wpL_pure (.pointer (some ⟨b, 0, none⟩)) rfl (by kernel_rfl) ?_
      simp only [Act.put, List.setIfInBounds_toArray, List.set_cons_zero, List.set_cons_succ]
      refine wpL_pure (.pointer (some ⟨b, 4, none⟩)) rfl (by kernel_rfl) ?_
      simp only [Act.put, List.setIfInBounds_toArray, List.set_cons_zero, List.set_cons_succ]
      obtain ⟨w3, hw3⟩ : ∃ V, V = w2.setCell ⟨b, 4, none⟩ (.bool false) := ⟨_, rfl⟩
      refine wpL_store_one rfl rfl (b) (4) rfl (.bool false) rfl rfl (fun _ => by kernel_rfl) (by rw [F2.out.1.cells.2.2.2.2]; rfl) (F2.out.1.1.free 4) ?_
      rw [← hw3]
      have F3 : Hid (DS w3 b gs gm n [] c (crS F L ks S m) fu fz false ∧ Fd b gs gm w w3) := Lib.hid (by rw [hw3]; exact ⟨F2.out.1.setB 4 (.bool false) fu false fz rfl F2.out.1.2.2.2.2.2.2.2.2.1 F2.out.1.2.2.2.2.2.2.2.2.2, F2.out.2.setB 4 _⟩)
      clear hw3 F2
      refine wpL_pure (.pointer (some ⟨b, 0, none⟩)) rfl (by kernel_rfl) ?_
      simp only [Act.put, List.setIfInBounds_toArray, List.set_cons_zero, List.set_cons_succ]
      refine wpL_pure (.pointer (some ⟨b, 2, none⟩)) rfl (by kernel_rfl) ?_
      simp only [Act.put, List.setIfInBounds_toArray, List.set_cons_zero, List.set_cons_succ]
      obtain ⟨w4, hw4⟩ : ∃ V, V = w3.setCell ⟨b, 2, none⟩ (.bool false) := ⟨_, rfl⟩
      refine wpL_store_one rfl rfl (b) (2) rfl (.bool false) rfl rfl (fun _ => by kernel_rfl) (by rw [F3.out.1.cells.2.2.1]; rfl) (F3.out.1.1.free 2) ?_
      rw [← hw4]
      have F4 : Hid (DS w4 b gs gm n [] c (crS F L ks S m) false fz false ∧ Fd b gs gm w w4) := Lib.hid (by rw [hw4]; exact ⟨F3.out.1.setB 2 (.bool false) false false fz rfl (fun e => (by cases e)) F3.out.1.2.2.2.2.2.2.2.2.2, F3.out.2.setB 2 _⟩)
      clear hw4 F3
      go_wp2_with fail
      refine bodyPost_end (results_none rfl _ _ _) rfl ?_
      exact ⟨rfl, ks, HKS.out.1, HSO.out, by rw [HKS.out.2]; exact F4.out.1, F4.out.2⟩
attribute [local irreducible] wpList in
set_option maxHeartbeats 4000000 in
set_option maxRecDepth 100000 in
theorem crash1 {w : World} {b gs gm n c : Nat} {L : List (Int × List Int × Nat)} {S : List (List Int)} {fu go : Bool} {fz : Int} (h : DS w b gs gm n L c S fu fz go) (a : Option Addr) (q cx : Nat) (F : List Int) (hr : Row w a q F) (hq : 0 < q) (ng : ∀ p, a = some p → p.block ≠ b ∧ p.block ≠ gs ∧ p.block ≠ gm) :
    Calls Try.prog 26 #[.pointer (some ⟨b, 0, none⟩), .slice a q cx] w fun e w' => CPost b gs gm n c L S fz F w e w' := by
  have HN := Lib.hid h.2.2.2.2.1
  have HLM : Hid (∀ ks : List Int, ks.Perm (L.map (·.1)) → ks.length ≤ 200) := Lib.hid (fun ks hk => by have h1 := hk.length_eq; have h2 := h.2.2.2.2.2.2.2.1.len; have h3 := h.2.2.2.2.1; simp at h1; omega)
  have HD := Lib.hid h
  have HR := Lib.hid hr
  have QE := Lib.hid hq
  have NG := Lib.hid ng
  clear h hr hq ng
  go_enter Try.func26, Try.ntmps26
  go_upto_region 0 with (fail)
  refine wp_region_lit ?_
  refine wpL_pure (.pointer (some ⟨b, 0, none⟩)) rfl (by kernel_rfl) ?_
  simp only [Act.put, List.setIfInBounds_toArray, List.set_cons_zero, List.set_cons_succ]
  refine wpL_pure (.pointer (some ⟨b, 0, none⟩)) rfl (by kernel_rfl) ?_
  simp only [Act.put, List.setIfInBounds_toArray, List.set_cons_zero, List.set_cons_succ]
  refine wpL_pure (.pointer (some ⟨b, 1, none⟩)) rfl (by kernel_rfl) ?_
  simp only [Act.put, List.setIfInBounds_toArray, List.set_cons_zero, List.set_cons_succ]
  refine wpL_pure (.map (some gm)) rfl (run_load_one _ _ _ 60 _ _ rfl (b) (1) rfl (by rw [HD.out.cells.2.1]) (by kernel_rfl)) ?_
  simp only [Act.put, List.setIfInBounds_toArray, List.set_cons_zero, List.set_cons_succ]
  refine wpL_call 42 #[.map (some gm)] rfl (by kernel_rfl) ((keys_call (some gm) w).mono ?_)
  rintro e w1 ⟨rfl, rfl⟩
  refine ⟨_, rfl, ?_⟩
  simp only [Act.put, List.setIfInBounds_toArray, List.set_cons_zero, List.set_cons_succ]
  refine wpL_call 41 #[.func (.func 54) #[] #[.pointer (some ⟨w.heap.size, 0, none⟩)]] rfl (by kernel_rfl) ((sorted_call gm n c L w HD.out.2.2.2.2.2.2.2.1 HD.out.2.2.2.2.1 HD.out.2.2.1).mono ?_)
  rintro e W1 ⟨vv, ss, rfl, hp, hrow, _, hb⟩
  obtain ⟨ks, hks⟩ : ∃ q, ss.mergeSort (fun x y => decide (x ≤ y)) = q := ⟨_, rfl⟩
  obtain ⟨m, hm⟩ : ∃ q, ss.length = q := ⟨_, rfl⟩
  rw [hks, hm] at hrow
  have hk : ks.Perm (L.map (·.1)) := by rw [← hks]; exact (List.mergeSort_perm _ _).trans hp
  have hkl : ks.length = m := by rw [← hks, List.length_mergeSort]; exact hm
  have hso : ks.Pairwise (· ≤ ·) := by rw [← hks]; exact sorted_ints ss
  have bb : Below w.heap.size w W1 := ((Below.refl _ _).alloc (Nat.le_refl _) _).trans (hb.mono (by simp))
  obtain ⟨v, cv, rfl, kr⟩ := krow_of hrow
  have F1 : Hid ((DS W1 b gs gm n L c (S) fu fz go ∧ Fd b gs gm w W1 ∧ KRow W1 v m ks ∧ Row W1 a q F) ∧ KFar b gs gm v) := Lib.hid ⟨⟨HD.out.below bb, Fd.of bb, kr.1, HR.out.keep bb⟩, fun p hp => by have h1 := kr.2 p hp; have h2 := HD.out.lts; simp at h1; refine ⟨?_, ?_, ?_⟩ <;> omega⟩
  have HKS : Hid (ks.Perm (L.map (·.1)) ∧ ks.length = m) := Lib.hid ⟨hk, hkl⟩
  have HSO := Lib.hid hso
  clear hp hrow hb hks hm hk hkl hso bb kr
  refine ⟨_, rfl, ?_⟩
  simp only [Act.put, List.setIfInBounds_toArray, List.set_cons_zero, List.set_cons_succ]
  refine wpL_pure (.int .i64 (m : Int)) rfl (by kernel_rfl) ?_
  simp only [Act.put, List.setIfInBounds_toArray, List.set_cons_zero, List.set_cons_succ]
  refine wpL_pure (.int .i64 0) rfl (by kernel_rfl) ?_
  simp only [Act.put, List.setIfInBounds_toArray, List.set_cons_zero, List.set_cons_succ]
  unfold wpList
  go_wp2_with fail
  go_loopw [14] (fun s14 wr => ∃ (j : Nat), s14 = .int .i64 (j : Int) ∧ Hid (j ≤ m ∧ DS wr b gs gm n L c (crS F L ks S j) fu fz go ∧ Fd b gs gm w wr ∧ KRow wr v m ks ∧ Row wr a q F)) (fun s14 _ => m - (intOf s14).toNat)
  case atStart => exact ⟨0, rfl, Lib.hid ⟨Nat.zero_le _, F1.out.1⟩⟩
  case round =>
    obtain ⟨j, rfl, RI⟩ := hrel
    by_cases hlt : j < m
    · have HJ := Lib.hid hlt
      clear hlt
      obtain ⟨g9, hg9, hkc⟩ := RI.out.2.2.2.1.2 j HJ.out
      subst hg9
      obtain ⟨kk, s, br, hkk, hmem, hkn⟩ := key_at HD.out.2.2.2.2.2.2.2.1 HKS.out.1 (by rw [HKS.out.2]; exact HJ.out)
      rw [hkk] at hkc
      have KC := Lib.hid hkc
      have KK := Lib.hid hkk
      have ME := Lib.hid hmem
      have KN := Lib.hid hkn
      have SO : Hid (SOk s) := Lib.hid (HD.out.2.2.2.2.2.2.2.1.1 _ hmem).2.2.1
      obtain ⟨t0, ht0, ot0⟩ := RI.out.2.1.at KN.out
      have T0 := Lib.hid ht0
      have OT := Lib.hid ot0
      clear hkc hkk hmem hkn ht0 ot0
      go_upto_region 1 with (fail)
      refine wp_region_lit ?_
      refine wpL_pure (.bool true) rfl (run_lti Try.underlying3 rfl rfl rfl (by have := HJ.out; rw [decide_eq_true_eq]; omega)) ?_
      simp only [Act.put, List.setIfInBounds_toArray, List.set_cons_zero, List.set_cons_succ]
      go_upto_region 2 with (fail)
      refine wp_region_lit ?_
      refine wpL_pure (.int .i64 (j : Int)) rfl (by kernel_rfl) ?_
      simp only [Act.put, List.setIfInBounds_toArray, List.set_cons_zero, List.set_cons_succ]
      refine wpL_pure (.pointer (some ⟨g9, 0 + j, none⟩)) rfl (run_idx60 _ _ _ _ _ g9 0 m cv j rfl rfl rfl HJ.out RI.out.2.2.2.1.1) ?_
      simp only [Act.put, List.setIfInBounds_toArray, List.set_cons_zero, List.set_cons_succ]
      refine wpL_pure (.int .i64 (kk : Int)) rfl (run_load_one _ _ _ 3 _ _ rfl g9 (0 + j) rfl (by rw [Nat.zero_add]; exact KC.out) (by kernel_rfl)) ?_
      simp only [Act.put, List.setIfInBounds_toArray, List.set_cons_zero, List.set_cons_succ]
      refine wpL_pure (.int .i64 (j : Int)) rfl (by kernel_rfl) ?_
      simp only [Act.put, List.setIfInBounds_toArray, List.set_cons_zero, List.set_cons_succ]
      refine wpL_pure (.int .i64 (kk : Int)) rfl (by kernel_rfl) ?_
      simp only [Act.put, List.setIfInBounds_toArray, List.set_cons_zero, List.set_cons_succ]
      go_upto_region 3 with (fail)
      refine wp_region_lit ?_
      refine wpL_pure (.int .i64 0) rfl (by kernel_rfl) ?_
      simp only [Act.put, List.setIfInBounds_toArray, List.set_cons_zero, List.set_cons_succ]
      go_upto_region 4 with (fail)
      refine wp_region_lit ?_
      refine wpL_pure (.slice a q cx) rfl (by kernel_rfl) ?_
      simp only [Act.put, List.setIfInBounds_toArray, List.set_cons_zero, List.set_cons_succ]
      refine wpL_pure (.int .i64 (q : Int)) rfl (by kernel_rfl) ?_
      simp only [Act.put, List.setIfInBounds_toArray, List.set_cons_zero, List.set_cons_succ]
      refine wpL_pure (.bool true) rfl (run_gti Try.underlying3 rfl rfl rfl (by have := QE.out; simp; omega)) ?_
      simp only [Act.put, List.setIfInBounds_toArray, List.set_cons_zero, List.set_cons_succ]
      obtain ⟨jr, hjr⟩ : ∃ q0, j % q = q0 := ⟨_, rfl⟩
      have JR : Hid (j % q = jr ∧ jr < q) := Lib.hid ⟨hjr, by rw [← hjr]; exact Nat.mod_lt _ QE.out⟩
      clear hjr
      obtain ⟨ga, oa, ea, hca⟩ := RI.out.2.2.2.2.2.2.2 jr JR.out.2
      subst ea
      obtain ⟨kf, hkf⟩ : ∃ q0, fateN F j = q0 := ⟨_, rfl⟩
      have KF : Hid (fateN F j = kf ∧ kf < 256 ∧ F.getD jr 0 = (kf : Int)) := Lib.hid (by subst hkf; exact fate_some HR.out JR.out.1 JR.out.2)
      have CA := Lib.hid hca
      clear hca hkf
      go_upto_region 5 with (fail)
      refine wp_region_lit ?_
      refine wpL_pure (.slice (some ⟨ga, oa, none⟩) q cx) rfl (by kernel_rfl) ?_
      simp only [Act.put, List.setIfInBounds_toArray, List.set_cons_zero, List.set_cons_succ]
      refine wpL_pure (.int .i64 (j : Int)) rfl (by kernel_rfl) ?_
      simp only [Act.put, List.setIfInBounds_toArray, List.set_cons_zero, List.set_cons_succ]
      refine wpL_pure (.slice (some ⟨ga, oa, none⟩) q cx) rfl (by kernel_rfl) ?_
      simp only [Act.put, List.setIfInBounds_toArray, List.set_cons_zero, List.set_cons_succ]
      refine wpL_pure (.int .i64 (q : Int)) rfl (by kernel_rfl) ?_
      simp only [Act.put, List.setIfInBounds_toArray, List.set_cons_zero, List.set_cons_succ]
      refine wpL_pure (.int .i64 ((jr : Nat) : Int)) rfl (run_remn _ _ _ _ _ j q jr rfl rfl rfl QE.out JR.out.1) ?_
      simp only [Act.put, List.setIfInBounds_toArray, List.set_cons_zero, List.set_cons_succ]
      refine wpL_pure (.pointer (some ⟨ga, oa + jr, none⟩)) rfl (run_idx _ _ _ _ _ ga oa q cx jr rfl rfl rfl JR.out.2 HR.out.2.1) ?_
      simp only [Act.put, List.setIfInBounds_toArray, List.set_cons_zero, List.set_cons_succ]
      refine wpL_pure (.int .u8 (kf : Int)) rfl (run_load_one _ _ _ 5 _ _ rfl ga (oa + jr) rfl (by rw [CA.out, KF.out.2.2]) (by kernel_rfl)) ?_
      simp only [Act.put, List.setIfInBounds_toArray, List.set_cons_zero, List.set_cons_succ]
      refine wpL_pure (.int .i64 (kf : Int)) rfl (run_convi Try.underlying5 Try.underlying3 rfl rfl _ (by have := KF.out.2.1; rw [wrap_in _ (by omega) (by omega)])) ?_
      simp only [Act.put, List.setIfInBounds_toArray, List.set_cons_zero, List.set_cons_succ]
      refine wpL_pure (.int .i64 (kf : Int)) rfl (by kernel_rfl) ?_
      simp only [Act.put, List.setIfInBounds_toArray, List.set_cons_zero, List.set_cons_succ]
      go_upto_region 6 with (fail)
      refine region_held (fun X => DS X b gs gm n L c (crS F L ks S j) fu fz go ∧ Fd b gs gm w X ∧ KRow X (some ⟨g9, 0, none⟩) m ks ∧ Row X (some ⟨ga, oa, none⟩) q F) 20 (by kernel_rfl) (by kernel_rfl) (by exact ⟨RI.out.2.1.drewD, RI.out.2.2.1.drewF, RI.out.2.2.2.1, RI.out.2.2.2.2⟩) ?_
      simp only [List.take_succ_cons, List.take_zero, List.drop_succ_cons, List.drop_zero]
      refine wpHeld_cons (.pointer (some ⟨b, 0, none⟩)) rfl (fun w h => heldRun_value (by kernel_rfl) h) ?_
      simp only [Act.put, List.setIfInBounds_toArray, List.set_cons_zero, List.set_cons_succ]
      refine wpHeld_cons (.pointer (some ⟨b, 0, none⟩)) rfl (fun w h => heldRun_value (by kernel_rfl) h) ?_
      simp only [Act.put, List.setIfInBounds_toArray, List.set_cons_zero, List.set_cons_succ]
      refine wpHeld_cons (.pointer (some ⟨b, 0, none⟩)) rfl (fun w h => heldRun_value (by kernel_rfl) h) ?_
      simp only [Act.put, List.setIfInBounds_toArray, List.set_cons_zero, List.set_cons_succ]
      refine wpHeld_cons (.slice (some ⟨gs, 0, none⟩) n n) rfl (fun w h => heldRun_value (run_load_one _ _ _ 59 _ _ rfl (b) (0) rfl (by rw [h.1.cells.1]) (by kernel_rfl)) h) ?_
      simp only [Act.put, List.setIfInBounds_toArray, List.set_cons_zero, List.set_cons_succ]
      refine wpHeld_cons (.int .i64 (kk : Int)) rfl (fun w h => heldRun_value (by kernel_rfl) h) ?_
      simp only [Act.put, List.setIfInBounds_toArray, List.set_cons_zero, List.set_cons_succ]
      refine wpHeld_cons (.pointer (some ⟨b, 0, none⟩)) rfl (fun w h => heldRun_value (by kernel_rfl) h) ?_
      simp only [Act.put, List.setIfInBounds_toArray, List.set_cons_zero, List.set_cons_succ]
      refine wpHeld_cons (.pointer (some ⟨b, 0, none⟩)) rfl (fun w h => heldRun_value (by kernel_rfl) h) ?_
      simp only [Act.put, List.setIfInBounds_toArray, List.set_cons_zero, List.set_cons_succ]
      refine wpHeld_cons (.pointer (some ⟨b, 1, none⟩)) rfl (fun w h => heldRun_value (by kernel_rfl) h) ?_
      simp only [Act.put, List.setIfInBounds_toArray, List.set_cons_zero, List.set_cons_succ]
      refine wpHeld_cons (.map (some gm)) rfl (fun w h => heldRun_value (run_load_one _ _ _ 60 _ _ rfl (b) (1) rfl (by rw [h.1.cells.2.1]) (by kernel_rfl)) h) ?_
      simp only [Act.put, List.setIfInBounds_toArray, List.set_cons_zero, List.set_cons_succ]
      refine wpHeld_cons (.int .i64 (kk : Int)) rfl (fun w h => heldRun_value (by kernel_rfl) h) ?_
      simp only [Act.put, List.setIfInBounds_toArray, List.set_cons_zero, List.set_cons_succ]
      refine wpHeld_cons (.agg (u8l s).toArray) rfl (fun w h => heldRun_value (run_look1 _ _ _ _ _ gm c _ s br false L rfl rfl rfl h.1.2.2.1 HD.out.2.2.2.2.2.2.2.1.2.1 ME.out) h) ?_
      simp only [Act.put, List.setIfInBounds_toArray, List.set_cons_zero, List.set_cons_succ]
      refine wpHeld_cons (.pointer (some ⟨b, 0, none⟩)) rfl (fun w h => heldRun_value (by kernel_rfl) h) ?_
      simp only [Act.put, List.setIfInBounds_toArray, List.set_cons_zero, List.set_cons_succ]
      refine wpHeld_cons (.pointer (some ⟨b, 0, none⟩)) rfl (fun w h => heldRun_value (by kernel_rfl) h) ?_
      simp only [Act.put, List.setIfInBounds_toArray, List.set_cons_zero, List.set_cons_succ]
      refine wpHeld_cons (.pointer (some ⟨b, 0, none⟩)) rfl (fun w h => heldRun_value (by kernel_rfl) h) ?_
      simp only [Act.put, List.setIfInBounds_toArray, List.set_cons_zero, List.set_cons_succ]
      refine wpHeld_cons (.slice (some ⟨gs, 0, none⟩) n n) rfl (fun w h => heldRun_value (run_load_one _ _ _ 59 _ _ rfl (b) (0) rfl (by rw [h.1.cells.1]) (by kernel_rfl)) h) ?_
      simp only [Act.put, List.setIfInBounds_toArray, List.set_cons_zero, List.set_cons_succ]
      refine wpHeld_cons (.int .i64 (kk : Int)) rfl (fun w h => heldRun_value (by kernel_rfl) h) ?_
      simp only [Act.put, List.setIfInBounds_toArray, List.set_cons_zero, List.set_cons_succ]
      refine wpHeld_cons (.pointer (some ⟨gs, kk * 64, none⟩)) rfl (fun w h => heldRun_value (run_idxs _ _ _ _ _ gs n n kk rfl rfl rfl KN.out HN.out) h) ?_
      simp only [Act.put, List.setIfInBounds_toArray, List.set_cons_zero, List.set_cons_succ]
      refine wpHeld_cons (.agg (u8l t0).toArray) rfl (fun w h => heldRun_value (run_load_mid _ _ _ 77 _ rfl gs (kk * 64) rfl (u8l t0) _ (h.1.range T0.out) Try.underlying77 rfl (sz53 OT.out.1)) h) ?_
      simp only [Act.put, List.setIfInBounds_toArray, List.set_cons_zero, List.set_cons_succ]
      refine wpHeld_cons (.int .i64 (kf : Int)) rfl (fun w h => heldRun_value (by kernel_rfl) h) ?_
      simp only [Act.put, List.setIfInBounds_toArray, List.set_cons_zero, List.set_cons_succ]
      refine wpHeld_call (.agg (u8l (tornV s t0 kf)).toArray) 43 #[.agg (u8l s).toArray, .agg (u8l t0).toArray, .int .i64 (kf : Int)] rfl (fun w => by kernel_rfl) (fun X h => (tornD s t0 SO.out OT.out kf KF.out.2.1 X).mono fun e V he => ⟨he.1, h.1.below he.2, h.2.1.trans (Fd.of he.2), h.2.2.1.keep he.2, h.2.2.2.keep he.2⟩) ?_
      simp only [Act.put, List.setIfInBounds_toArray, List.set_cons_zero, List.set_cons_succ]
      refine wpHeld_nil ?_
      intro Y h
      have TH := Lib.hid (h.1.there KN.out)
      have OTV : Hid (SOk (tornV s t0 kf)) := Lib.hid (tornV_ok SO.out OT.out _)
      obtain ⟨Y1, hY1⟩ : ∃ V, V = Y.setCells gs (kk * 64) (u8l (tornV s t0 kf)) := ⟨_, rfl⟩
      have he : (crS F L ks S j).set kk (tornV s t0 kf) = crS F L ks S (j + 1) := by rw [crS]; exact (cr_step HD.out.2.2.2.2.2.2.2.1.2.1 ME.out KK.out T0.out KF.out.1).symm
      have F4 : Hid (j + 1 ≤ m ∧ DS Y1 b gs gm n L c (crS F L ks S (j + 1)) fu fz go ∧ Fd b gs gm w Y1 ∧ KRow Y1 (some ⟨g9, 0, none⟩) m ks ∧ Row Y1 (some ⟨ga, oa, none⟩) q F) := Lib.hid (by rw [hY1, ← he]; exact ⟨HJ.out, h.1.put kk KN.out OTV.out, h.2.1.cells _ _, h.2.2.1.far (gb_setCells _ _ _ gs) (by have := F1.out.2 _ rfl; simpa using this.2.1), row_far h.2.2.2 (gb_setCells _ _ _ gs) (fun p hp => (NG.out p hp).2.1)⟩)
      clear h he
      refine wpL_pure (.pointer (some ⟨gs, kk * 64, none⟩)) rfl (run_idxs _ _ _ _ _ gs n n kk rfl rfl rfl KN.out HN.out) ?_
      simp only [Act.put, List.setIfInBounds_toArray, List.set_cons_zero, List.set_cons_succ]
      refine wpList_store_mid rfl 77 _ _ rfl gs (kk * 64) (u8l (tornV s t0 kf)).toArray rfl rfl (by rw [show (u8l (tornV s t0 kf)).toArray.size = 64 by simp [u8l, OTV.out.1]]; exact TH.out) (sz53' OTV.out.1) (all8 _) ?_
      simp only [Act.put, List.setIfInBounds_toArray, List.set_cons_zero, List.set_cons_succ]
      try simp only [List.toList_toArray]
      rw [← hY1]
      clear hY1
      go_upto_region 7 with (fail)
      refine wp_region_lit ?_
      refine wpL_pure (.int .i64 ((j + 1 : Nat) : Int)) rfl (run_addi Try.underlying3 rfl rfl rfl _ (by have := HJ.out; have := HLM.out ks HKS.out.1; have := HKS.out.2; rw [wrap_in _ (by omega) (by omega)]; omega)) ?_
      simp only [Act.put, List.setIfInBounds_toArray, List.set_cons_zero, List.set_cons_succ]
      refine wpL_pure (.int .i64 ((j + 1 : Nat) : Int)) rfl (by kernel_rfl) ?_
      simp only [Act.put, List.setIfInBounds_toArray, List.set_cons_zero, List.set_cons_succ]
      unfold wpList
      go_roundw
      case rel => first | exact ⟨j + 1, rfl, F4⟩ | ((repeat apply Exists.intro); exact ⟨⟨j + 1, rfl, F4⟩, rfl⟩)
      case measure => simp [intOf]; have := HJ.out; omega
    · have ej : j = m := by have := RI.out.1; omega
      have HJ := Lib.hid hlt
      clear hlt
      go_upto_region 1 with (fail)
      refine wp_region_lit ?_
      refine wpL_pure (.bool false) rfl (run_lti Try.underlying3 rfl rfl rfl (by have := HJ.out; rw [decide_eq_false_iff_not]; omega)) ?_
      simp only [Act.put, List.setIfInBounds_toArray, List.set_cons_zero, List.set_cons_succ]
      go_upto_region 8 with (fail)
      refine wp_region_lit ?_
      refine wpL_pure (.pointer (some ⟨b, 0, none⟩)) rfl (by kernel_rfl) ?_
      simp only [Act.put, List.setIfInBounds_toArray, List.set_cons_zero, List.set_cons_succ]
      refine wpL_pure (.pointer (some ⟨b, 0, none⟩)) rfl (by kernel_rfl) ?_
      simp only [Act.put, List.setIfInBounds_toArray, List.set_cons_zero, List.set_cons_succ]
      refine wpL_pure (.pointer (some ⟨b, 1, none⟩)) rfl (by kernel_rfl) ?_
      simp only [Act.put, List.setIfInBounds_toArray, List.set_cons_zero, List.set_cons_succ]
      refine wpL_pure (.map (some gm)) rfl (run_load_one _ _ _ 60 _ _ rfl (b) (1) rfl (by rw [RI.out.2.1.cells.2.1]) (by kernel_rfl)) ?_
      simp only [Act.put, List.setIfInBounds_toArray, List.set_cons_zero, List.set_cons_succ]
      obtain ⟨w2, hw2⟩ : ∃ V, V = setMap wr gm (.map (ents []) c) := ⟨_, rfl⟩
      refine zV (.tuple #[]) w2 (by rw [hw2]; exact run_clear _ _ _ _ gm c _ rfl rfl RI.out.2.1.2.2.1) ?_
      have F2 : Hid (DS w2 b gs gm n [] c (crS F L ks S m) fu fz go ∧ Fd b gs gm w w2) := Lib.hid (by rw [hw2, ← ej]; exact ⟨RI.out.2.1.upd [] c (LOk.nil _ _), RI.out.2.2.1.upd _⟩)
      clear hw2
      go_upto_region 9 with (fail)
      refine wp_region_lit ?_
      refine wpL_pure (.pointer (some ⟨b, 0, none⟩)) rfl (by kernel_rfl) ?_
      simp only [Act.put, List.setIfInBounds_toArray, List.set_cons_zero, List.set_cons_succ]
      refine wpL_pure (.pointer (some ⟨b, 0, none⟩)) rfl (by kernel_rfl) ?_
      simp only [Act.put, List.setIfInBounds_toArray, List.set_cons_zero, List.set_cons_succ]
      refine wpL_pure (.pointer (some ⟨b, 0, none⟩)) rfl (by kernel_rfl) ?_
      simp only [Act.put, List.setIfInBounds_toArray, List.set_cons_zero, List.set_cons_succ]
      refine wpL_pure (.pointer (some ⟨b, 4, none⟩)) rfl (by kernel_rfl) ?_
      simp only [Act.put, List.setIfInBounds_toArray, List.set_cons_zero, List.set_cons_succ]
      obtain ⟨w3, hw3⟩ : ∃ V, V = w2.setCell ⟨b, 4, none⟩ (.bool false) := ⟨_, rfl⟩
      refine wpL_store_one rfl rfl (b) (4) rfl (.bool false) rfl rfl (fun _ => by kernel_rfl) (by rw [F2.out.1.cells.2.2.2.2]; rfl) (F2.out.1.1.free 4) ?_
      rw [← hw3]
      have F3 : Hid (DS w3 b gs gm n [] c (crS F L ks S m) fu fz false ∧ Fd b gs gm w w3) := Lib.hid (by rw [hw3]; exact ⟨F2.out.1.setB 4 (.bool false) fu false fz rfl F2.out.1.2.2.2.2.2.2.2.2.1 F2.out.1.2.2.2.2.2.2.2.2.2, F2.out.2.setB 4 _⟩)
      clear hw3 F2
      refine wpL_pure (.pointer (some ⟨b, 0, none⟩)) rfl (by kernel_rfl) ?_
      simp only [Act.put, List.setIfInBounds_toArray, List.set_cons_zero, List.set_cons_succ]
      refine wpL_pure (.pointer (some ⟨b, 2, none⟩)) rfl (by kernel_rfl) ?_
      simp only [Act.put, List.setIfInBounds_toArray, List.set_cons_zero, List.set_cons_succ]
      obtain ⟨w4, hw4⟩ : ∃ V, V = w3.setCell ⟨b, 2, none⟩ (.bool false) := ⟨_, rfl⟩
      refine wpL_store_one rfl rfl (b) (2) rfl (.bool false) rfl rfl (fun _ => by kernel_rfl) (by rw [F3.out.1.cells.2.2.1]; rfl) (F3.out.1.1.free 2) ?_
      rw [← hw4]
      have F4 : Hid (DS w4 b gs gm n [] c (crS F L ks S m) false fz false ∧ Fd b gs gm w w4) := Lib.hid (by rw [hw4]; exact ⟨F3.out.1.setB 2 (.bool false) false false fz rfl (fun e => (by cases e)) F3.out.1.2.2.2.2.2.2.2.2.2, F3.out.2.setB 2 _⟩)
      clear hw4 F3
      go_wp2_with fail
      refine bodyPost_end (results_none rfl _ _ _) rfl ?_
      exact ⟨rfl, ks, HKS.out.1, HSO.out, by rw [HKS.out.2]; exact F4.out.1, F4.out.2⟩
theorem crashD {w : World} {b gs gm n c : Nat} {L : List (Int × List Int × Nat)} {S : List (List Int)} {fu go : Bool} {fz : Int} (h : DS w b gs gm n L c S fu fz go) (a : Option Addr) (q cx : Nat) (F : List Int) (hr : Row w a q F) (ng : 0 < q → ∀ p, a = some p → p.block ≠ b ∧ p.block ≠ gs ∧ p.block ≠ gm) :
    Calls Try.prog 26 #[.pointer (some ⟨b, 0, none⟩), .slice a q cx] w fun e w' => CPost b gs gm n c L S fz F w e w' := by
  rcases Nat.eq_zero_or_pos q with hq | hq
  · exact crash0 h a q cx F hr hq
  · exact crash1 h a q cx F hr hq (ng hq)
end Go.Proofs.Yteabblmhcjpboaa.D
