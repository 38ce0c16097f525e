import Derived.Test.YtggbmajajpafnaaDoorWalkHashKeys
namespace Go.Proofs.YtggbmajajpafnaaDoor
open Go Go.RowKit Go.ChangeShapes Go.WideShapes Go.ChangeAt

/-- texts that are handed in, of whatever length. -/
def RP (w : World) (a : Option Addr) (len : Nat) (L : List (List Int)) : Prop := L.length = len ∧ len ≤ maxLen ∧ ∀ k, k < len → ∃ g o a' n' c', a = some ⟨g, o, none⟩ ∧ w.cell? ⟨g, o + k, none⟩ = some (.slice a' n' c') ∧ Sl w a' n' c' (L.getD k [])
theorem RP.below {w w' : World} {a : Option Addr} {ln : Nat} {L : List (List Int)} (h : RP w a ln L) (hb : Below w.heap.size w w') : RP w' a ln L :=
  ⟨h.1, h.2.1, fun k hk => by
    obtain ⟨g, o, a', n', c', e, hc, hs⟩ := h.2.2 k hk
    exact ⟨g, o, a', n', c', e, (gb_of hb none).cell hc (by simp), hs.below hb⟩⟩
theorem RP.psl {w : World} {a : Option Addr} {ln : Nat} {L : List (List Int)} (h : RP w a ln L) (hl : ∀ x ∈ L, x.length ≤ 2500) : PSl w a ln L :=
  ⟨h.1, h.2.1, fun k hk => by
    obtain ⟨g, o, a', n', c', e, hc, hs⟩ := h.2.2 k hk
    have hx : k < L.length := by rw [h.1]; exact hk
    have := hl _ (List.getElem_mem hx)
    have h1 := hs.1.1
    rw [List.getD, List.getElem?_eq_getElem hx] at h1
    simp at h1
    exact ⟨g, o, a', n', c', e, hc, hs, by omega⟩⟩
theorem add_off (b off n : Nat) (sp : Option Nat) (h : sp = none) : (⟨b, off, sp⟩ : Addr).add n = ⟨b, off + n, none⟩ := by
  subst h
  unfold Addr.add
  split
  · rename_i h0; subst h0; rfl
  · rfl
theorem cell_of_head {l : List Value} {k : Nat} {v : Value} (h : (l.drop k).take 1 = [v]) : l[k]? = some v := by
  have h1 : ((l.drop k).take 1)[0]? = some v := by rw [h]; rfl
  simpa using h1
theorem list_of {P : Nat → List Int → Prop} : ∀ (n : Nat), (∀ k, k < n → ∃ x, P k x) → ∃ L : List (List Int), L.length = n ∧ ∀ k, k < n → P k (L.getD k [])
  | 0, _ => ⟨[], rfl, fun k hk => by omega⟩
  | n + 1, h => by
    obtain ⟨L, hl, hL⟩ := list_of n (fun k hk => h k (by omega))
    obtain ⟨x, hx⟩ := h n (by omega)
    refine ⟨L ++ [x], by simp [hl], fun k hk => ?_⟩
    by_cases e : k < n
    · rw [List.getD, List.getElem?_append_left (by omega)]
      exact hL k e
    · obtain rfl : k = n := by omega
      rw [List.getD, List.getElem?_append_right (by omega), hl, Nat.sub_self]
      exact hx
theorem open_rp {H : Type} {enc : TypeId × Value → H} {W : World} {held : Bool} {a : Option Addr} {len cap : Nat} {d : DataW H} {ps : List MemPlace}
    (hd : DataW.Trod enc Tryd.prog W 0 (fun _ => true) held 35 (.slice a len cap) d ps) : ∃ L, RP W a len L := by
  obtain ⟨fuel, hf⟩ := hd
  simp only [Value.cells] at hf
  rcases DataW.trod_slice Tryd.underlying35 hf with ⟨hcs, _⟩ | ⟨x, l, c, elems, rest, n, _, hcs, _, _, hl, hm, hlen, hel, _, _⟩
  · simp at hcs
    obtain ⟨rfl, rfl, rfl⟩ := hcs
    exact ⟨[], rfl, by simp [maxLen], fun k hk => by omega⟩
  · simp at hcs
    obtain ⟨rfl, rfl, rfl⟩ := hcs
    have c22 : Tryd.prog.cellsOf 22 = 1 := by kernel_rfl
    have key : ∀ k, k < len → ∃ xs : List Int, ∃ a' n' c', W.cell? (x.add (k * 1)) = some (.slice a' n' c') ∧ Sl W a' n' c' xs := by
      intro k hk
      have h1 := hel k hk
      rw [List.getElem?_eq_getElem (by omega), c22] at h1
      obtain ⟨cs, hc, ht⟩ := Option.bind_eq_some_iff.1 h1
      obtain ⟨_, hcl, hat⟩ := World.cells?_some hc
      have h0 := hat 0 (by omega)
      rw [add_zero_addr] at h0
      rcases open_ints Tryd.underlying22 Tryd.underlying5 (by kernel_rfl) ht with ⟨hcs, _⟩ | ⟨y, l, c, zs, hcs, _, hl', hm', hz, _, hcell, hwz⟩
      · rw [hcs] at h0
        exact ⟨[], none, 0, 0, h0, sl_nil _⟩
      · rw [hcs] at h0
        exact ⟨zs.take l, some y, l, c, h0, sl_of (.inr ⟨y, rfl, hl', hm', by simpa using hz, hcell, hwz⟩)⟩
    obtain ⟨L, hL, hP⟩ := list_of len key
    obtain ⟨b, off, sp⟩ := x
    refine ⟨L, hL, by omega, fun k hk => ?_⟩
    obtain ⟨a', n', c', hc, hs⟩ := hP k hk
    obtain ⟨_, _, _, h0, _⟩ := hP 0 (by omega)
    rw [Nat.zero_mul, add_zero_addr] at h0
    obtain rfl : sp = none := spot_of h0
    rw [add_off _ _ _ _ rfl, Nat.mul_one] at hc
    exact ⟨b, off, a', n', c', rfl, hc, hs⟩
def fewN (L : List (List Int)) (k : Nat) : Nat := ((L.take k).map fun x => min2n x.length 3000).sum
theorem fewN_succ {L : List (List Int)} {k : Nat} (h : k < L.length) : fewN L (k + 1) = fewN L k + min2n (L.getD k []).length 3000 := by
  unfold fewN
  rw [List.take_add_one, List.getElem?_eq_getElem h, List.getD, List.getElem?_eq_getElem h, List.map_append, List.sum_append]
  congr 1
theorem fewN_le (L : List (List Int)) : ∀ k, fewN L k ≤ 3000 * k
  | 0 => by simp [fewN]
  | k + 1 => by
    have ih := fewN_le L k
    rcases Nat.lt_or_ge k L.length with h | h
    · rw [fewN_succ h]
      have : min2n (L.getD k []).length 3000 ≤ 3000 := by unfold min2n; split <;> omega
      omega
    · have e : fewN L (k + 1) = fewN L k := by unfold fewN; rw [List.take_of_length_le (by omega), List.take_of_length_le (by omega)]
      omega
theorem few_sum : ∀ (L : List (List Int)), (L.map fun x => min2n x.length 3000).sum ≤ 2500 → L.flatten.length ≤ 2500 ∧ (∀ x ∈ L, x.length ≤ 2500) ∧ L.flatten.length ≤ (L.map fun x => min2n x.length 3000).sum
  | [], _ => by simp
  | x :: L, h => by
    simp only [List.map_cons, List.sum_cons] at h
    have ih := few_sum L (by omega)
    have hx : x.length ≤ min2n x.length 3000 := by unfold min2n at h ⊢; split at h <;> split <;> omega
    simp only [List.flatten_cons, List.length_append, List.map_cons, List.sum_cons]
    refine ⟨by omega, fun y hy => ?_, by omega⟩
    rcases List.mem_cons.1 hy with rfl | hy
    · omega
    · exact ih.2.1 y hy
theorem few_spec {L : List (List Int)} {ln : Nat} (hl : L.length = ln) (h8 : ln ≤ 8) (h : fewN L ln ≤ 2500) : ln ≤ 8 ∧ L.flatten.length ≤ 2500 ∧ ∀ x ∈ L, x.length ≤ 2500 := by
  unfold fewN at h
  rw [List.take_of_length_le (by omega)] at h
  exact ⟨h8, (few_sum L h).1, (few_sum L h).2.1⟩
theorem flat_take_le (L : List (List Int)) (k : Nat) : (L.take k).flatten.length ≤ L.flatten.length := by
  have h : L.flatten = (L.take k).flatten ++ (L.drop k).flatten := by rw [← List.flatten_append, List.take_append_drop]
  rw [h, List.length_append]
  omega
theorem gb_own {w w' : World} {B : Nat} {v : Value} {xs : List Int} (h : Own w B v xs) (hg : w.grownBy w' v.ownBlock) (hB : B ≤ w.heap.size) : Below B w w' :=
  ⟨hg.os, hg.tape, hg.output, hg.size, fun k hk => hg.block k (by omega) (fun e => by have := h.lt k e.symm; omega)⟩
theorem own_sl {w : World} {b : Nat} {v : Value} {xs : List Int} (h : Own w b v xs) : ∃ a c, v = .slice a xs.length c ∧ Sl w a xs.length c xs := by
  rcases h.form with ⟨h1, h2⟩ | ⟨g, cap, cur, h1, h2, h3, h4, h5, h6, h7⟩
  · subst h2
    exact ⟨none, 0, h1, sl_nil _⟩
  · refine ⟨_, _, h1, ?_⟩
    rw [h1] at h
    unfold maxLen at h5
    exact ⟨h.row.1, h4, by omega, fun _ p hp => by cases hp; rfl⟩
attribute [local irreducible] wpList
set_option maxHeartbeats 8000000 in
set_option maxRecDepth 100000 in
theorem few_any (w : World) (a : Option Addr) (ln lc : Nat) (L : List (List Int)) (h : RP w a ln L) :
    Calls Tryd.prog 14 #[.slice a ln lc] w fun e w' => ∃ z, e = .returned (.bool z) ∧ w' = w ∧ (z = true → ln ≤ 8 ∧ L.flatten.length ≤ 2500 ∧ ∀ x ∈ L, x.length ≤ 2500) := by
  have HP := Lib.hid h
  clear h
  go_enter Tryd.func14, Tryd.ntmps14
  go_upto_region 0 with (fail)
  refine wp_region_lit ?_
  refine wpL_pure (.bool false) rfl (by kernel_rfl) ?_
  simp only [Act.put, List.setIfInBounds_toArray, List.set_cons_zero, List.set_cons_succ]
  go_upto_region 1 with (fail)
  refine wp_region_lit ?_
  refine wpL_pure (.int .i64 0) rfl (by kernel_rfl) ?_
  simp only [Act.put, List.setIfInBounds_toArray, List.set_cons_zero, List.set_cons_succ]
  go_upto_region 2 with (fail)
  refine wp_region_lit ?_
  refine wpL_pure (.int .i64 0) rfl (by kernel_rfl) ?_
  simp only [Act.put, List.setIfInBounds_toArray, List.set_cons_zero, List.set_cons_succ]
  go_wp2_with fail
  go_loopw [3, 4] (fun s3 s4 wr => ∃ k : Nat, s3 = .int .i64 (fewN L k : Nat) ∧ s4 = .int .i64 (k : Int) ∧ Hid (k ≤ ln ∧ k ≤ 10 ∧ wr = w)) (fun _ s4 _ => 10 - (intOf s4).toNat)
  case atStart => exact ⟨0, rfl, rfl, Lib.hid ⟨by omega, by omega, rfl⟩⟩
  case round =>
    obtain ⟨k, rfl, rfl, RI⟩ := hrel
    obtain ⟨s, hs⟩ : ∃ s, fewN L k = s := ⟨_, rfl⟩
    have HSX : Hid (s ≤ 3000 * k) := Lib.hid (by rw [← hs]; exact fewN_le L k)
    have HSE := Lib.hid hs
    rw [hs]
    clear hs
    by_cases hlt : k < ln
    · have HK := Lib.hid hlt
      clear hlt
      by_cases h10 : k < 10
      · have HT := Lib.hid h10
        clear h10
        go_upto_region 3 with (fail)
        refine wp_region_lit ?_
        refine wpL_pure (.int .i64 (k : Int)) rfl (by kernel_rfl) ?_
        simp only [Act.put, List.setIfInBounds_toArray, List.set_cons_zero, List.set_cons_succ]
        refine wpL_pure (.slice a ln lc) rfl (by kernel_rfl) ?_
        simp only [Act.put, List.setIfInBounds_toArray, List.set_cons_zero, List.set_cons_succ]
        refine wpL_pure (.int .i64 (ln : Int)) rfl (by kernel_rfl) ?_
        simp only [Act.put, List.setIfInBounds_toArray, List.set_cons_zero, List.set_cons_succ]
        refine wpL_pure (.bool true) rfl (run_lti Tryd.underlying3 rfl rfl rfl (by have := HK.out; rw [decide_eq_true_eq]; omega)) ?_
        simp only [Act.put, List.setIfInBounds_toArray, List.set_cons_zero, List.set_cons_succ]
        refine wpL_pure (.bool true) rfl (by kernel_rfl) ?_
        simp only [Act.put, List.setIfInBounds_toArray, List.set_cons_zero, List.set_cons_succ]
        refine wpL_pure (.int .i64 (k : Int)) rfl (by kernel_rfl) ?_
        simp only [Act.put, List.setIfInBounds_toArray, List.set_cons_zero, List.set_cons_succ]
        refine wpL_pure (.bool true) rfl (run_lti Tryd.underlying3 rfl rfl rfl (by have := HT.out; rw [decide_eq_true_eq]; omega)) ?_
        simp only [Act.put, List.setIfInBounds_toArray, List.set_cons_zero, List.set_cons_succ]
        refine wpL_pure (.bool true) rfl (by kernel_rfl) ?_
        simp only [Act.put, List.setIfInBounds_toArray, List.set_cons_zero, List.set_cons_succ]
        obtain ⟨g, o, pa, pn, pc, ea, hc, hsl⟩ := HP.out.2.2 k HK.out
        have EA := Lib.hid ea
        have PC : Hid (wr.cell? ⟨g, o + k, none⟩ = some (.slice pa pn pc)) := Lib.hid (by rw [RI.out.2.2]; exact hc)
        have PL : Hid (pn = (L.getD k []).length) := Lib.hid hsl.1.1.symm
        clear ea hc hsl
        obtain ⟨z, hz⟩ : ∃ z, min2n pn 3000 = z := ⟨_, rfl⟩
        have HZ := Lib.hid hz
        have ZL : Hid (z ≤ 3000) := Lib.hid (by rw [← hz]; unfold min2n; split <;> omega)
        clear hz
        go_upto_region 5 with (fail)
        refine wp_region_lit ?_
        refine wpL_pure (.int .i64 (s : Nat)) rfl (by kernel_rfl) ?_
        simp only [Act.put, List.setIfInBounds_toArray, List.set_cons_zero, List.set_cons_succ]
        refine wpL_pure (.slice a ln lc) rfl (by kernel_rfl) ?_
        simp only [Act.put, List.setIfInBounds_toArray, List.set_cons_zero, List.set_cons_succ]
        refine wpL_pure (.int .i64 (k : Int)) rfl (by kernel_rfl) ?_
        simp only [Act.put, List.setIfInBounds_toArray, List.set_cons_zero, List.set_cons_succ]
        refine wpL_pure (.pointer (some ⟨g, o + k, none⟩)) rfl (run_idx35 _ _ _ _ _ g o ln lc k rfl (by rw [EA.out]; rfl) rfl HK.out HP.out.2.1) ?_
        simp only [Act.put, List.setIfInBounds_toArray, List.set_cons_zero, List.set_cons_succ]
        refine wpL_pure (.slice pa pn pc) rfl (run_load_one _ _ _ 22 _ _ rfl (g) (o + k) rfl (PC.out) (by kernel_rfl)) ?_
        simp only [Act.put, List.setIfInBounds_toArray, List.set_cons_zero, List.set_cons_succ]
        refine wpL_pure (.int .i64 (pn : Int)) rfl (by kernel_rfl) ?_
        simp only [Act.put, List.setIfInBounds_toArray, List.set_cons_zero, List.set_cons_succ]
        refine wpL_pure (.int .i64 (z : Nat)) rfl (by rw [← HZ.out]; exact run_min2n _ _ _ _ _ pn 3000 _ rfl rfl rfl) ?_
        simp only [Act.put, List.setIfInBounds_toArray, List.set_cons_zero, List.set_cons_succ]
        refine wpL_pure (.int .i64 ((s + z : Nat) : Int)) rfl (run_addi Tryd.underlying3 rfl rfl rfl _ (by have := HT.out; have := HSX.out; have := ZL.out; rw [wrap_in _ (by omega) (by omega)]; omega)) ?_
        simp only [Act.put, List.setIfInBounds_toArray, List.set_cons_zero, List.set_cons_succ]
        refine wpL_pure (.int .i64 ((s + z : Nat) : Int)) rfl (by kernel_rfl) ?_
        simp only [Act.put, List.setIfInBounds_toArray, List.set_cons_zero, List.set_cons_succ]
        go_upto_region 4 with (fail)
        refine wp_region_lit ?_
        refine wpL_pure (.int .i64 (k : Int)) rfl (by kernel_rfl) ?_
        simp only [Act.put, List.setIfInBounds_toArray, List.set_cons_zero, List.set_cons_succ]
        refine wpL_pure (.int .i64 ((k + 1 : Nat) : Int)) rfl (run_addi Tryd.underlying3 rfl rfl rfl _ (by have := HT.out; rw [wrap_in _ (by omega) (by omega)]; omega)) ?_
        simp only [Act.put, List.setIfInBounds_toArray, List.set_cons_zero, List.set_cons_succ]
        refine wpL_pure (.int .i64 ((k + 1 : Nat) : Int)) rfl (by kernel_rfl) ?_
        simp only [Act.put, List.setIfInBounds_toArray, List.set_cons_zero, List.set_cons_succ]
        have EF : s + z = fewN L (k + 1) := by rw [fewN_succ (by have := HP.out.1; have := HK.out; omega), HSE.out, ← PL.out, HZ.out]
        have NX : Hid (k + 1 ≤ ln ∧ k + 1 ≤ 10 ∧ wr = w) := Lib.hid ⟨HK.out, HT.out, RI.out.2.2⟩
        unfold wpList
        go_roundw
        case rel => first | exact ⟨k + 1, by rw [EF], rfl, NX⟩ | ((repeat apply Exists.intro); exact ⟨⟨k + 1, by rw [EF], rfl, NX⟩, rfl⟩)
        case measure => simp [intOf]; have := HT.out; omega
      · have HT := Lib.hid h10
        clear h10
        have ONE : Hid (ln ≤ 8 → k = ln) := Lib.hid (fun h => by have := HT.out; have := HK.out; omega)
        go_upto_region 3 with (fail)
        refine wp_region_lit ?_
        refine wpL_pure (.int .i64 (k : Int)) rfl (by kernel_rfl) ?_
        simp only [Act.put, List.setIfInBounds_toArray, List.set_cons_zero, List.set_cons_succ]
        refine wpL_pure (.slice a ln lc) rfl (by kernel_rfl) ?_
        simp only [Act.put, List.setIfInBounds_toArray, List.set_cons_zero, List.set_cons_succ]
        refine wpL_pure (.int .i64 (ln : Int)) rfl (by kernel_rfl) ?_
        simp only [Act.put, List.setIfInBounds_toArray, List.set_cons_zero, List.set_cons_succ]
        refine wpL_pure (.bool true) rfl (run_lti Tryd.underlying3 rfl rfl rfl (by have := HK.out; rw [decide_eq_true_eq]; omega)) ?_
        simp only [Act.put, List.setIfInBounds_toArray, List.set_cons_zero, List.set_cons_succ]
        refine wpL_pure (.bool true) rfl (by kernel_rfl) ?_
        simp only [Act.put, List.setIfInBounds_toArray, List.set_cons_zero, List.set_cons_succ]
        refine wpL_pure (.int .i64 (k : Int)) rfl (by kernel_rfl) ?_
        simp only [Act.put, List.setIfInBounds_toArray, List.set_cons_zero, List.set_cons_succ]
        refine wpL_pure (.bool false) rfl (run_lti Tryd.underlying3 rfl rfl rfl (by have := HT.out; rw [decide_eq_false_iff_not]; omega)) ?_
        simp only [Act.put, List.setIfInBounds_toArray, List.set_cons_zero, List.set_cons_succ]
        refine wpL_pure (.bool false) rfl (by kernel_rfl) ?_
        simp only [Act.put, List.setIfInBounds_toArray, List.set_cons_zero, List.set_cons_succ]
        by_cases h8 : ln ≤ 8
        · have H8 := Lib.hid h8
          clear h8
          by_cases hq : s ≤ 2500
          · have HQ := Lib.hid hq
            clear hq
            go_upto_region 6 with (fail)
            refine wp_region_lit ?_
            refine wpL_pure (.slice a ln lc) rfl (by kernel_rfl) ?_
            simp only [Act.put, List.setIfInBounds_toArray, List.set_cons_zero, List.set_cons_succ]
            refine wpL_pure (.int .i64 (ln : Int)) rfl (by kernel_rfl) ?_
            simp only [Act.put, List.setIfInBounds_toArray, List.set_cons_zero, List.set_cons_succ]
            refine wpL_pure (.bool true) rfl (run_lei Tryd.underlying3 rfl rfl rfl (by have := H8.out; rw [decide_eq_true_eq]; omega)) ?_
            simp only [Act.put, List.setIfInBounds_toArray, List.set_cons_zero, List.set_cons_succ]
            refine wpL_pure (.bool true) rfl (by kernel_rfl) ?_
            simp only [Act.put, List.setIfInBounds_toArray, List.set_cons_zero, List.set_cons_succ]
            refine wpL_pure (.int .i64 (s : Nat)) rfl (by kernel_rfl) ?_
            simp only [Act.put, List.setIfInBounds_toArray, List.set_cons_zero, List.set_cons_succ]
            refine wpL_pure (.bool true) rfl (run_lei Tryd.underlying3 rfl rfl rfl (by have := HQ.out; rw [decide_eq_true_eq]; omega)) ?_
            simp only [Act.put, List.setIfInBounds_toArray, List.set_cons_zero, List.set_cons_succ]
            refine wpL_pure (.bool true) rfl (by kernel_rfl) ?_
            simp only [Act.put, List.setIfInBounds_toArray, List.set_cons_zero, List.set_cons_succ]
            refine wpL_pure (.bool true) rfl (by kernel_rfl) ?_
            simp only [Act.put, List.setIfInBounds_toArray, List.set_cons_zero, List.set_cons_succ]
            go_wp2_with fail
            go_ret
            exact ⟨true, rfl, RI.out.2.2, fun _ => few_spec HP.out.1 H8.out (by rw [← ONE.out H8.out, HSE.out]; exact HQ.out)⟩
          · have HQ := Lib.hid hq
            clear hq
            go_upto_region 6 with (fail)
            refine wp_region_lit ?_
            refine wpL_pure (.slice a ln lc) rfl (by kernel_rfl) ?_
            simp only [Act.put, List.setIfInBounds_toArray, List.set_cons_zero, List.set_cons_succ]
            refine wpL_pure (.int .i64 (ln : Int)) rfl (by kernel_rfl) ?_
            simp only [Act.put, List.setIfInBounds_toArray, List.set_cons_zero, List.set_cons_succ]
            refine wpL_pure (.bool true) rfl (run_lei Tryd.underlying3 rfl rfl rfl (by have := H8.out; rw [decide_eq_true_eq]; omega)) ?_
            simp only [Act.put, List.setIfInBounds_toArray, List.set_cons_zero, List.set_cons_succ]
            refine wpL_pure (.bool true) rfl (by kernel_rfl) ?_
            simp only [Act.put, List.setIfInBounds_toArray, List.set_cons_zero, List.set_cons_succ]
            refine wpL_pure (.int .i64 (s : Nat)) rfl (by kernel_rfl) ?_
            simp only [Act.put, List.setIfInBounds_toArray, List.set_cons_zero, List.set_cons_succ]
            refine wpL_pure (.bool false) rfl (run_lei Tryd.underlying3 rfl rfl rfl (by have := HQ.out; rw [decide_eq_false_iff_not]; omega)) ?_
            simp only [Act.put, List.setIfInBounds_toArray, List.set_cons_zero, List.set_cons_succ]
            refine wpL_pure (.bool false) rfl (by kernel_rfl) ?_
            simp only [Act.put, List.setIfInBounds_toArray, List.set_cons_zero, List.set_cons_succ]
            refine wpL_pure (.bool false) rfl (by kernel_rfl) ?_
            simp only [Act.put, List.setIfInBounds_toArray, List.set_cons_zero, List.set_cons_succ]
            go_wp2_with fail
            go_ret
            exact ⟨false, rfl, RI.out.2.2, fun h => by cases h⟩
        · have H8 := Lib.hid h8
          clear h8
          go_upto_region 6 with (fail)
          refine wp_region_lit ?_
          refine wpL_pure (.slice a ln lc) rfl (by kernel_rfl) ?_
          simp only [Act.put, List.setIfInBounds_toArray, List.set_cons_zero, List.set_cons_succ]
          refine wpL_pure (.int .i64 (ln : Int)) rfl (by kernel_rfl) ?_
          simp only [Act.put, List.setIfInBounds_toArray, List.set_cons_zero, List.set_cons_succ]
          refine wpL_pure (.bool false) rfl (run_lei Tryd.underlying3 rfl rfl rfl (by have := H8.out; rw [decide_eq_false_iff_not]; omega)) ?_
          simp only [Act.put, List.setIfInBounds_toArray, List.set_cons_zero, List.set_cons_succ]
          refine wpL_pure (.bool false) rfl (by kernel_rfl) ?_
          simp only [Act.put, List.setIfInBounds_toArray, List.set_cons_zero, List.set_cons_succ]
          refine wpL_skip (by kernel_rfl) ?_
          simp only [Act.put, List.setIfInBounds_toArray, List.set_cons_zero, List.set_cons_succ]
          refine wpL_skip (by kernel_rfl) ?_
          simp only [Act.put, List.setIfInBounds_toArray, List.set_cons_zero, List.set_cons_succ]
          refine wpL_pure (.bool false) rfl (by kernel_rfl) ?_
          simp only [Act.put, List.setIfInBounds_toArray, List.set_cons_zero, List.set_cons_succ]
          refine wpL_pure (.bool false) rfl (by kernel_rfl) ?_
          simp only [Act.put, List.setIfInBounds_toArray, List.set_cons_zero, List.set_cons_succ]
          go_wp2_with fail
          go_ret
          exact ⟨false, rfl, RI.out.2.2, fun h => by cases h⟩
    · have HK := Lib.hid hlt
      clear hlt
      have ONE : Hid (ln ≤ 8 → k = ln) := Lib.hid (fun h => by have := RI.out.1; have := HK.out; omega)
      go_upto_region 3 with (fail)
      refine wp_region_lit ?_
      refine wpL_pure (.int .i64 (k : Int)) rfl (by kernel_rfl) ?_
      simp only [Act.put, List.setIfInBounds_toArray, List.set_cons_zero, List.set_cons_succ]
      refine wpL_pure (.slice a ln lc) rfl (by kernel_rfl) ?_
      simp only [Act.put, List.setIfInBounds_toArray, List.set_cons_zero, List.set_cons_succ]
      refine wpL_pure (.int .i64 (ln : Int)) rfl (by kernel_rfl) ?_
      simp only [Act.put, List.setIfInBounds_toArray, List.set_cons_zero, List.set_cons_succ]
      refine wpL_pure (.bool false) rfl (run_lti Tryd.underlying3 rfl rfl rfl (by have := HK.out; rw [decide_eq_false_iff_not]; omega)) ?_
      simp only [Act.put, List.setIfInBounds_toArray, List.set_cons_zero, List.set_cons_succ]
      refine wpL_pure (.bool false) rfl (by kernel_rfl) ?_
      simp only [Act.put, List.setIfInBounds_toArray, List.set_cons_zero, List.set_cons_succ]
      refine wpL_skip (by kernel_rfl) ?_
      simp only [Act.put, List.setIfInBounds_toArray, List.set_cons_zero, List.set_cons_succ]
      refine wpL_skip (by kernel_rfl) ?_
      simp only [Act.put, List.setIfInBounds_toArray, List.set_cons_zero, List.set_cons_succ]
      refine wpL_pure (.bool false) rfl (by kernel_rfl) ?_
      simp only [Act.put, List.setIfInBounds_toArray, List.set_cons_zero, List.set_cons_succ]
      by_cases h8 : ln ≤ 8
      · have H8 := Lib.hid h8
        clear h8
        by_cases hq : s ≤ 2500
        · have HQ := Lib.hid hq
          clear hq
          go_upto_region 6 with (fail)
          refine wp_region_lit ?_
          refine wpL_pure (.slice a ln lc) rfl (by kernel_rfl) ?_
          simp only [Act.put, List.setIfInBounds_toArray, List.set_cons_zero, List.set_cons_succ]
          refine wpL_pure (.int .i64 (ln : Int)) rfl (by kernel_rfl) ?_
          simp only [Act.put, List.setIfInBounds_toArray, List.set_cons_zero, List.set_cons_succ]
          refine wpL_pure (.bool true) rfl (run_lei Tryd.underlying3 rfl rfl rfl (by have := H8.out; rw [decide_eq_true_eq]; omega)) ?_
          simp only [Act.put, List.setIfInBounds_toArray, List.set_cons_zero, List.set_cons_succ]
          refine wpL_pure (.bool true) rfl (by kernel_rfl) ?_
          simp only [Act.put, List.setIfInBounds_toArray, List.set_cons_zero, List.set_cons_succ]
          refine wpL_pure (.int .i64 (s : Nat)) rfl (by kernel_rfl) ?_
          simp only [Act.put, List.setIfInBounds_toArray, List.set_cons_zero, List.set_cons_succ]
          refine wpL_pure (.bool true) rfl (run_lei Tryd.underlying3 rfl rfl rfl (by have := HQ.out; rw [decide_eq_true_eq]; omega)) ?_
          simp only [Act.put, List.setIfInBounds_toArray, List.set_cons_zero, List.set_cons_succ]
          refine wpL_pure (.bool true) rfl (by kernel_rfl) ?_
          simp only [Act.put, List.setIfInBounds_toArray, List.set_cons_zero, List.set_cons_succ]
          refine wpL_pure (.bool true) rfl (by kernel_rfl) ?_
          simp only [Act.put, List.setIfInBounds_toArray, List.set_cons_zero, List.set_cons_succ]
          go_wp2_with fail
          go_ret
          exact ⟨true, rfl, RI.out.2.2, fun _ => few_spec HP.out.1 H8.out (by rw [← ONE.out H8.out, HSE.out]; exact HQ.out)⟩
        · have HQ := Lib.hid hq
          clear hq
          go_upto_region 6 with (fail)
          refine wp_region_lit ?_
          refine wpL_pure (.slice a ln lc) rfl (by kernel_rfl) ?_
          simp only [Act.put, List.setIfInBounds_toArray, List.set_cons_zero, List.set_cons_succ]
          refine wpL_pure (.int .i64 (ln : Int)) rfl (by kernel_rfl) ?_
          simp only [Act.put, List.setIfInBounds_toArray, List.set_cons_zero, List.set_cons_succ]
          refine wpL_pure (.bool true) rfl (run_lei Tryd.underlying3 rfl rfl rfl (by have := H8.out; rw [decide_eq_true_eq]; omega)) ?_
          simp only [Act.put, List.setIfInBounds_toArray, List.set_cons_zero, List.set_cons_succ]
          refine wpL_pure (.bool true) rfl (by kernel_rfl) ?_
          simp only [Act.put, List.setIfInBounds_toArray, List.set_cons_zero, List.set_cons_succ]
          refine wpL_pure (.int .i64 (s : Nat)) rfl (by kernel_rfl) ?_
          simp only [Act.put, List.setIfInBounds_toArray, List.set_cons_zero, List.set_cons_succ]
          refine wpL_pure (.bool false) rfl (run_lei Tryd.underlying3 rfl rfl rfl (by have := HQ.out; rw [decide_eq_false_iff_not]; omega)) ?_
          simp only [Act.put, List.setIfInBounds_toArray, List.set_cons_zero, List.set_cons_succ]
          refine wpL_pure (.bool false) rfl (by kernel_rfl) ?_
          simp only [Act.put, List.setIfInBounds_toArray, List.set_cons_zero, List.set_cons_succ]
          refine wpL_pure (.bool false) rfl (by kernel_rfl) ?_
          simp only [Act.put, List.setIfInBounds_toArray, List.set_cons_zero, List.set_cons_succ]
          go_wp2_with fail
          go_ret
          exact ⟨false, rfl, RI.out.2.2, fun h => by cases h⟩
      · have H8 := Lib.hid h8
        clear h8
        go_upto_region 6 with (fail)
        refine wp_region_lit ?_
        refine wpL_pure (.slice a ln lc) rfl (by kernel_rfl) ?_
        simp only [Act.put, List.setIfInBounds_toArray, List.set_cons_zero, List.set_cons_succ]
        refine wpL_pure (.int .i64 (ln : Int)) rfl (by kernel_rfl) ?_
        simp only [Act.put, List.setIfInBounds_toArray, List.set_cons_zero, List.set_cons_succ]
        refine wpL_pure (.bool false) rfl (run_lei Tryd.underlying3 rfl rfl rfl (by have := H8.out; rw [decide_eq_false_iff_not]; omega)) ?_
        simp only [Act.put, List.setIfInBounds_toArray, List.set_cons_zero, List.set_cons_succ]
        refine wpL_pure (.bool false) rfl (by kernel_rfl) ?_
        simp only [Act.put, List.setIfInBounds_toArray, List.set_cons_zero, List.set_cons_succ]
        refine wpL_skip (by kernel_rfl) ?_
        simp only [Act.put, List.setIfInBounds_toArray, List.set_cons_zero, List.set_cons_succ]
        refine wpL_skip (by kernel_rfl) ?_
        simp only [Act.put, List.setIfInBounds_toArray, List.set_cons_zero, List.set_cons_succ]
        refine wpL_pure (.bool false) rfl (by kernel_rfl) ?_
        simp only [Act.put, List.setIfInBounds_toArray, List.set_cons_zero, List.set_cons_succ]
        refine wpL_pure (.bool false) rfl (by kernel_rfl) ?_
        simp only [Act.put, List.setIfInBounds_toArray, List.set_cons_zero, List.set_cons_succ]
        go_wp2_with fail
        go_ret
        exact ⟨false, rfl, RI.out.2.2, fun h => by cases h⟩
set_option maxHeartbeats 8000000 in
set_option maxRecDepth 100000 in
theorem joined_any (w : World) (a : Option Addr) (ln lc : Nat) (L : List (List Int)) (h : PSl w a ln L) (h8 : ln ≤ 100) (hF : L.flatten.length ≤ 100000) :
    Calls Tryd.prog 16 #[.slice a ln lc] w fun e w' => ∃ v, e = .returned v ∧ Own w' w.heap.size v L.flatten ∧ Below w.heap.size w w' := by
  have HP := Lib.hid h
  have HF := Lib.hid hF
  have HL8 := Lib.hid h8
  clear h h8 hF
  go_enter Tryd.func16, Tryd.ntmps16
  go_upto_region 0 with (fail)
  refine wp_region_lit ?_
  refine wpL_pure (.slice none 0 0) rfl (by kernel_rfl) ?_
  simp only [Act.put, List.setIfInBounds_toArray, List.set_cons_zero, List.set_cons_succ]
  go_upto_region 1 with (fail)
  refine wp_region_lit ?_
  refine wpL_pure (.slice none 0 0) rfl (by kernel_rfl) ?_
  simp only [Act.put, List.setIfInBounds_toArray, List.set_cons_zero, List.set_cons_succ]
  go_upto_region 2 with (fail)
  refine wp_region_lit ?_
  refine wpL_pure (.int .i64 0) rfl (by kernel_rfl) ?_
  simp only [Act.put, List.setIfInBounds_toArray, List.set_cons_zero, List.set_cons_succ]
  go_wp2_with fail
  go_loopw [3, 4] (fun s3 s4 wr => ∃ k : Nat, s4 = .int .i64 (k : Int) ∧ Hid (k ≤ ln ∧ Own wr w.heap.size s3 (L.take k).flatten ∧ Below w.heap.size w wr)) (fun _ s4 _ => ln - (intOf s4).toNat)
  case atStart => exact ⟨0, rfl, Lib.hid ⟨by omega, Own.nil _ _, Below.refl _ _⟩⟩
  case round =>
    obtain ⟨k, rfl, RI⟩ := hrel
    by_cases hlt : k < ln
    · have HK := Lib.hid hlt
      clear hlt
      go_upto_region 3 with (fail)
      refine wp_region_lit ?_
      refine wpL_pure (.int .i64 (k : Int)) rfl (by kernel_rfl) ?_
      simp only [Act.put, List.setIfInBounds_toArray, List.set_cons_zero, List.set_cons_succ]
      refine wpL_pure (.slice a ln lc) rfl (by kernel_rfl) ?_
      simp only [Act.put, List.setIfInBounds_toArray, List.set_cons_zero, List.set_cons_succ]
      refine wpL_pure (.int .i64 (ln : Int)) rfl (by kernel_rfl) ?_
      simp only [Act.put, List.setIfInBounds_toArray, List.set_cons_zero, List.set_cons_succ]
      refine wpL_pure (.bool true) rfl (run_lti Tryd.underlying3 rfl rfl rfl (by have := HK.out; rw [decide_eq_true_eq]; omega)) ?_
      simp only [Act.put, List.setIfInBounds_toArray, List.set_cons_zero, List.set_cons_succ]
      obtain ⟨g, o, pa, pn, pc, ea, hc, hsl, _⟩ := HP.out.2.2 k HK.out
      have EA := Lib.hid ea
      have PC : Hid (wr.cell? ⟨g, o + k, none⟩ = some (.slice pa pn pc)) := Lib.hid ((gb_of RI.out.2.2 none).cell hc (by simp))
      obtain ⟨v2, w2, r1, r2, r3, r4, r5⟩ := append_own wr w.heap.size u3 (L.take k).flatten (L.getD k []) pa pn pc RI.out.2.1 (hsl.1.keep RI.out.2.2) (by have h1 := flat_take_succ HP.out.1 HK.out; have h2 := flat_take_le L (k + 1); have h3 := HF.out; rw [← h1, List.length_append] at h2; rw [hsl.1.1] at h2; omega) RI.out.2.2.size
      have AP := Lib.hid r1
      have NX : Hid (k + 1 ≤ ln ∧ Own w2 w.heap.size v2 (L.take (k + 1)).flatten ∧ Below w.heap.size w w2) := Lib.hid ⟨HK.out, by rw [← flat_take_succ HP.out.1 HK.out]; exact r2, RI.out.2.2.trans (gb_own RI.out.2.1 r3 RI.out.2.2.size)⟩
      clear ea hc hsl r1 r2 r3 r4 r5
      go_upto_region 5 with (fail)
      refine wp_region_lit ?_
      refine wpL_pure (u3) rfl (by kernel_rfl) ?_
      simp only [Act.put, List.setIfInBounds_toArray, List.set_cons_zero, List.set_cons_succ]
      refine wpL_pure (.slice a ln lc) rfl (by kernel_rfl) ?_
      simp only [Act.put, List.setIfInBounds_toArray, List.set_cons_zero, List.set_cons_succ]
      refine wpL_pure (.int .i64 (k : Int)) rfl (by kernel_rfl) ?_
      simp only [Act.put, List.setIfInBounds_toArray, List.set_cons_zero, List.set_cons_succ]
      refine wpL_pure (.pointer (some ⟨g, o + k, none⟩)) rfl (run_idx35 _ _ _ _ _ g o ln lc k rfl (by rw [EA.out]; rfl) rfl HK.out HP.out.2.1) ?_
      simp only [Act.put, List.setIfInBounds_toArray, List.set_cons_zero, List.set_cons_succ]
      refine wpL_pure (.slice pa pn pc) rfl (run_load_one _ _ _ 22 _ _ rfl (g) (o + k) rfl (PC.out) (by kernel_rfl)) ?_
      simp only [Act.put, List.setIfInBounds_toArray, List.set_cons_zero, List.set_cons_succ]
      refine wpL_value (v2) (w2) rfl (run_app _ _ _ _ _ _ _ _ _ rfl rfl rfl rfl AP.out) ?_
      simp only [Act.put, List.setIfInBounds_toArray, List.set_cons_zero, List.set_cons_succ]
      refine wpL_pure (v2) rfl (by kernel_rfl) ?_
      simp only [Act.put, List.setIfInBounds_toArray, List.set_cons_zero, List.set_cons_succ]
      go_upto_region 4 with (fail)
      refine wp_region_lit ?_
      refine wpL_pure (.int .i64 (k : Int)) rfl (by kernel_rfl) ?_
      simp only [Act.put, List.setIfInBounds_toArray, List.set_cons_zero, List.set_cons_succ]
      refine wpL_pure (.int .i64 ((k + 1 : Nat) : Int)) rfl (run_addi Tryd.underlying3 rfl rfl rfl _ (by have := HK.out; have := HL8.out; rw [wrap_in _ (by omega) (by omega)]; omega)) ?_
      simp only [Act.put, List.setIfInBounds_toArray, List.set_cons_zero, List.set_cons_succ]
      refine wpL_pure (.int .i64 ((k + 1 : Nat) : Int)) rfl (by kernel_rfl) ?_
      simp only [Act.put, List.setIfInBounds_toArray, List.set_cons_zero, List.set_cons_succ]
      unfold wpList
      go_roundw
      case rel => first | exact ⟨k + 1, rfl, NX⟩ | ((repeat apply Exists.intro); exact ⟨⟨k + 1, rfl, NX⟩, rfl⟩)
      case measure => simp [intOf]; have := HK.out; omega
    · have HK := Lib.hid hlt
      have EK : Hid (k = ln) := Lib.hid (by have := RI.out.1; omega)
      clear hlt
      go_upto_region 3 with (fail)
      refine wp_region_lit ?_
      refine wpL_pure (.int .i64 (k : Int)) rfl (by kernel_rfl) ?_
      simp only [Act.put, List.setIfInBounds_toArray, List.set_cons_zero, List.set_cons_succ]
      refine wpL_pure (.slice a ln lc) rfl (by kernel_rfl) ?_
      simp only [Act.put, List.setIfInBounds_toArray, List.set_cons_zero, List.set_cons_succ]
      refine wpL_pure (.int .i64 (ln : Int)) rfl (by kernel_rfl) ?_
      simp only [Act.put, List.setIfInBounds_toArray, List.set_cons_zero, List.set_cons_succ]
      refine wpL_pure (.bool false) rfl (run_lti Tryd.underlying3 rfl rfl rfl (by have := HK.out; rw [decide_eq_false_iff_not]; omega)) ?_
      simp only [Act.put, List.setIfInBounds_toArray, List.set_cons_zero, List.set_cons_succ]
      go_upto_region 6 with (fail)
      refine wp_region_lit ?_
      refine wpL_pure (u3) rfl (by kernel_rfl) ?_
      simp only [Act.put, List.setIfInBounds_toArray, List.set_cons_zero, List.set_cons_succ]
      refine wpL_pure (u3) rfl (by kernel_rfl) ?_
      simp only [Act.put, List.setIfInBounds_toArray, List.set_cons_zero, List.set_cons_succ]
      go_wp2_with fail
      go_ret
      exact ⟨u3, rfl, by have h := RI.out.2.1; rw [EK.out, List.take_of_length_le (by rw [HP.out.1]; omega)] at h; exact h, RI.out.2.2⟩
set_option maxHeartbeats 8000000 in
set_option maxRecDepth 100000 in
theorem walkHashSums (a : Option Addr) (ln lc : Nat) (w : World) (h : ∃ L, RP w a ln L) (tabs : TabK w ∧ TabH w ∧ TabW w) :
    Calls Tryd.prog 5 #[.slice a ln lc] w fun e w' => e = .returned (.bool true) ∧ Below w.heap.size w w' := by
  obtain ⟨L, h⟩ := h
  have HP := Lib.hid h
  have HT := Lib.hid tabs.1
  have HH := Lib.hid tabs.2.1
  have HW := Lib.hid tabs.2.2
  clear h tabs
  go_enter Tryd.func5, Tryd.ntmps5
  go_upto_region 0 with (fail)
  refine wp_region_lit ?_
  refine wpL_pure (.bool false) rfl (by kernel_rfl) ?_
  simp only [Act.put, List.setIfInBounds_toArray, List.set_cons_zero, List.set_cons_succ]
  go_upto_region 1 with (fail)
  refine wp_region_lit ?_
  refine wpL_call 10 #[] rfl (by kernel_rfl) (((awake_any w HT.out HH.out)).mono fun e w1 ⟨he, hb⟩ => ⟨.bool true, he, ?_⟩)
  simp only [Act.put, List.setIfInBounds_toArray, List.set_cons_zero, List.set_cons_succ]
  have B1 := Lib.hid hb
  clear hb
  refine wpL_pure (.bool true) rfl (by kernel_rfl) ?_
  simp only [Act.put, List.setIfInBounds_toArray, List.set_cons_zero, List.set_cons_succ]
  refine wpL_pure (.slice a ln lc) rfl (by kernel_rfl) ?_
  simp only [Act.put, List.setIfInBounds_toArray, List.set_cons_zero, List.set_cons_succ]
  refine wpL_call 14 #[.slice a ln lc] rfl (by kernel_rfl) (((few_any w1 a ln lc L (HP.out.below B1.out))).mono fun e w2 ⟨z, he, hw, hz⟩ => ⟨.bool z, he, ?_⟩)
  simp only [Act.put, List.setIfInBounds_toArray, List.set_cons_zero, List.set_cons_succ]
  rw [hw]
  clear hw
  have HZ := Lib.hid hz
  clear hz
  cases z
  · refine wpL_pure (.bool true) rfl (by kernel_rfl) ?_
    simp only [Act.put, List.setIfInBounds_toArray, List.set_cons_zero, List.set_cons_succ]
    refine wpL_pure (.bool true) rfl (by kernel_rfl) ?_
    simp only [Act.put, List.setIfInBounds_toArray, List.set_cons_zero, List.set_cons_succ]
    refine wpL_skip (by kernel_rfl) ?_
    simp only [Act.put, List.setIfInBounds_toArray, List.set_cons_zero, List.set_cons_succ]
    refine wpL_skip (by kernel_rfl) ?_
    simp only [Act.put, List.setIfInBounds_toArray, List.set_cons_zero, List.set_cons_succ]
    refine wpL_skip (by kernel_rfl) ?_
    simp only [Act.put, List.setIfInBounds_toArray, List.set_cons_zero, List.set_cons_succ]
    refine wpL_skip (by kernel_rfl) ?_
    simp only [Act.put, List.setIfInBounds_toArray, List.set_cons_zero, List.set_cons_succ]
    refine wpL_skip (by kernel_rfl) ?_
    simp only [Act.put, List.setIfInBounds_toArray, List.set_cons_zero, List.set_cons_succ]
    refine wpL_skip (by kernel_rfl) ?_
    simp only [Act.put, List.setIfInBounds_toArray, List.set_cons_zero, List.set_cons_succ]
    refine wpL_pure (.bool true) rfl (by kernel_rfl) ?_
    simp only [Act.put, List.setIfInBounds_toArray, List.set_cons_zero, List.set_cons_succ]
    refine wpL_pure (.bool true) rfl (by kernel_rfl) ?_
    simp only [Act.put, List.setIfInBounds_toArray, List.set_cons_zero, List.set_cons_succ]
    refine wpL_pure (.bool true) rfl (by kernel_rfl) ?_
    simp only [Act.put, List.setIfInBounds_toArray, List.set_cons_zero, List.set_cons_succ]
    go_wp2_with fail
    go_ret
    exact ⟨rfl, B1.out⟩
  · have FW := Lib.hid (HZ.out rfl)
    clear HZ
    have PS : Hid (PSl w1 a ln L) := Lib.hid ((HP.out.below B1.out).psl FW.out.2.2)
    refine wpL_pure (.bool false) rfl (by kernel_rfl) ?_
    simp only [Act.put, List.setIfInBounds_toArray, List.set_cons_zero, List.set_cons_succ]
    refine wpL_pure (.bool false) rfl (by kernel_rfl) ?_
    simp only [Act.put, List.setIfInBounds_toArray, List.set_cons_zero, List.set_cons_succ]
    refine wpL_pure (.slice a ln lc) rfl (by kernel_rfl) ?_
    simp only [Act.put, List.setIfInBounds_toArray, List.set_cons_zero, List.set_cons_succ]
    refine wpL_call 15 #[.slice a ln lc] rfl (by kernel_rfl) (((sum_any w1 a ln lc L PS.out (by have := FW.out.1; omega) (HT.out.below B1.out) (HH.out.below B1.out))).mono fun e w3 ⟨he, hb⟩ => ⟨.agg (u8l (shaS L.flatten)).toArray, he, ?_⟩)
    simp only [Act.put, List.setIfInBounds_toArray, List.set_cons_zero, List.set_cons_succ]
    have B3 : Hid (Below w.heap.size w w3 ∧ PSl w3 a ln L) := Lib.hid ⟨B1.out.trans (hb.mono B1.out.size), PS.out.below hb⟩
    clear hb
    refine wpL_pure (.slice a ln lc) rfl (by kernel_rfl) ?_
    simp only [Act.put, List.setIfInBounds_toArray, List.set_cons_zero, List.set_cons_succ]
    refine wpL_call 16 #[.slice a ln lc] rfl (by kernel_rfl) (((joined_any w3 a ln lc L B3.out.2 (by have := FW.out.1; omega) (by have := FW.out.2.1; omega))).mono fun e w4 ⟨v, he, ho, hb⟩ => ⟨v, he, ?_⟩)
    simp only [Act.put, List.setIfInBounds_toArray, List.set_cons_zero, List.set_cons_succ]
    obtain ⟨va, vc, ev, vs⟩ := own_sl ho
    subst ev
    have B4 : Hid (Below w.heap.size w w4 ∧ Sl w4 va L.flatten.length vc L.flatten) := Lib.hid ⟨B3.out.1.trans (hb.mono B3.out.1.size), vs⟩
    clear hb ho vs
    refine wpL_call 11 #[.slice va L.flatten.length vc] rfl (by kernel_rfl) (((refsum_any w4 va L.flatten.length vc L.flatten B4.out.2 (by have := FW.out.2.1; omega) (HW.out.below B4.out.1))).mono fun e w5 ⟨he, hb⟩ => ⟨.agg (u8l (shaS L.flatten)).toArray, he, ?_⟩)
    simp only [Act.put, List.setIfInBounds_toArray, List.set_cons_zero, List.set_cons_succ]
    have B5 : Hid (Below w.heap.size w w5) := Lib.hid (B4.out.1.trans (hb.mono B4.out.1.size))
    clear hb
    refine wpL_pure (.bool true) rfl (run_eq26 _ _ _ _ _ (shaS L.flatten) (shaS_len _) rfl rfl rfl) ?_
    simp only [Act.put, List.setIfInBounds_toArray, List.set_cons_zero, List.set_cons_succ]
    refine wpL_pure (.bool true) rfl (by kernel_rfl) ?_
    simp only [Act.put, List.setIfInBounds_toArray, List.set_cons_zero, List.set_cons_succ]
    refine wpL_pure (.bool true) rfl (by kernel_rfl) ?_
    simp only [Act.put, List.setIfInBounds_toArray, List.set_cons_zero, List.set_cons_succ]
    refine wpL_pure (.bool true) rfl (by kernel_rfl) ?_
    simp only [Act.put, List.setIfInBounds_toArray, List.set_cons_zero, List.set_cons_succ]
    go_wp2_with fail
    go_ret
    exact ⟨rfl, B5.out⟩
end Go.Proofs.YtggbmajajpafnaaDoor
