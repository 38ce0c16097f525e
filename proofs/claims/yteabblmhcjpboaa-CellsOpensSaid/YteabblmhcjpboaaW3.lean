/- Bytes that are appended piece by piece. -/
import Derived.Test.YteabblmhcjpboaaC15
namespace Go.Proofs.Yteabblmhcjpboaa.D
open Go Go.RowKit
set_option maxRecDepth 100000
/-- slices of slices, opened. -/
def PartAt (w : World) (g o k : Nat) (L : List (List Int)) : Prop := ∃ (pa : Option Addr) (pn pc : Nat) (ys : List Int), L.getD k [] = ys ∧ w.cell? ⟨g, o + k, none⟩ = some (.slice pa pn pc) ∧ Sl w pa pn pc ys
def Parts (w : World) (a : Option Addr) (n : Nat) (L : List (List Int)) : Prop := n ≤ maxLen ∧ ∀ k, k < n → ∃ g o, a = some ⟨g, o, none⟩ ∧ PartAt w g o k L
theorem Parts.at {w : World} {a : Option Addr} {n : Nat} {L : List (List Int)} (h : Parts w a n L) {k : Nat} (hk : k < n) : ∃ g o, a = some ⟨g, o, none⟩ ∧ n ≤ maxLen ∧ PartAt w g o k L := by
  obtain ⟨g, o, e, p⟩ := h.2 k hk
  exact ⟨g, o, e, h.1, p⟩
theorem cell_keep {w w' : World} {g j : Nat} {v : Value} (h : w.cell? ⟨g, j, none⟩ = some v) (bb : Below w.heap.size w w') : w'.cell? ⟨g, j, none⟩ = some v := by
  rw [bb.cell (p := ⟨g, j, none⟩) (World.block_lt_of_cell? w _ h)]; exact h
def flatK (L : List (List Int)) : Nat → List Int
  | 0 => []
  | k + 1 => flatK L k ++ L.getD k []
theorem flatK_len {L : List (List Int)} : ∀ {k : Nat}, (∀ j, j < k → (L.getD j []).length ≤ 60) → (flatK L k).length ≤ 60 * k
  | 0, _ => by simp [flatK]
  | k + 1, h => by
    rw [flatK, List.length_append]
    have h1 := flatK_len (k := k) (fun j hj => h j (by omega))
    have h2 := h k (by omega)
    omega
def ntB (x : Int) (k : Nat) : Int := IntKind.u8.wrap (x + IntKind.u8.wrap (k : Int))
theorem ntB_ok (x : Int) (k : Nat) : 0 ≤ ntB x k ∧ ntB x k ≤ 255 := by
  unfold ntB
  rw [IntKind.wrap_u8]; omega
theorem zs_open (fr rm n : Nat) (h : fr + 2 ≤ n) : OpenIs (zs n) fr rm 0 (List.replicate 16 0) [] := by
  have g : ∀ i, i < n → (zs n)[i]? = some (List.replicate 64 0) := fun i hi => by rw [zs, List.getElem?_replicate, if_pos hi]
  refine ⟨⟨_, _, g fr (by omega), g (fr + 1) (by omega), ?_⟩, fun j hj => absurd hj (by simp)⟩
  have z : srl (List.replicate 64 0) = 0 ∧ cntL (List.replicate 64 0) = 0 ∧ nteL (List.replicate 64 0) = List.replicate 16 0 := by decide
  have a : opA rm (List.replicate 64 0) = (0, 0, List.replicate 16 0) := by
    unfold opA
    split
    · rw [z.1, z.2.1, z.2.2]
    · rfl
  unfold opH
  rw [a, if_neg]
  · rfl
  · intro q
    rw [Bool.and_eq_true, Bool.and_eq_true] at q
    have := fit_par q.2.1
    rw [z.1] at this
    omega
attribute [local irreducible] wpList
set_option maxHeartbeats 8000000
theorem grows_any (w : World) (a : Option Addr) (n ca : Nat) (L : List (List Int)) (x : Int) (hl : Parts w a n L) : Calls Try.prog 3 #[.slice a n ca, .int .u8 x] w fun e w' => e = .returned (.bool true) ∧ Below w.heap.size w w' := by
  have HL := Lib.hid hl
  clear hl
  go_enter Try.func3, Try.ntmps3
  go_upto_region 0 with (fail)
  refine wp_region_lit ?_
  refine wpL_pure (.bool false) rfl (by kernel_rfl) ?_
  simp only [Act.put, List.setIfInBounds_toArray, List.set_cons_zero, List.set_cons_succ]
  by_cases hbig : 20 < n
  · have F := Lib.hid hbig
    clear hbig
    go_upto_region 1 with (fail)
    refine wp_region_lit ?_
    refine wpL_call 8 #[] rfl (by kernel_rfl) ((awake_any w).mono fun e W1 ⟨he, bb⟩ => ⟨.bool true, he, ?_⟩)
    simp only [Act.put, List.setIfInBounds_toArray, List.set_cons_zero, List.set_cons_succ]
    have B1 : Hid (Below w.heap.size w W1) := Lib.hid bb
    clear bb
    refine wpL_pure (.bool false) rfl (by kernel_rfl) ?_
    simp only [Act.put, List.setIfInBounds_toArray, List.set_cons_zero, List.set_cons_succ]
    refine wpL_pure (.bool false) rfl (by kernel_rfl) ?_
    simp only [Act.put, List.setIfInBounds_toArray, List.set_cons_zero, List.set_cons_succ]
    refine wpL_pure (.slice a n ca) rfl (by kernel_rfl) ?_
    simp only [Act.put, List.setIfInBounds_toArray, List.set_cons_zero, List.set_cons_succ]
    refine wpL_pure (.int .i64 (n : Int)) rfl (by kernel_rfl) ?_
    simp only [Act.put, List.setIfInBounds_toArray, List.set_cons_zero, List.set_cons_succ]
    refine wpL_pure (.bool true) rfl (run_gti Try.underlying3 rfl rfl rfl (by have := F.out; rw [decide_eq_true_eq]; omega)) ?_
    simp only [Act.put, List.setIfInBounds_toArray, List.set_cons_zero, List.set_cons_succ]
    refine wpL_pure (.bool true) rfl (by kernel_rfl) ?_
    simp only [Act.put, List.setIfInBounds_toArray, List.set_cons_zero, List.set_cons_succ]
    go_upto_region 2 with (fail)
    refine wp_region_lit ?_
    refine wpL_call 8 #[] rfl (by kernel_rfl) ((awake_any W1).mono fun e W2 ⟨he, bb⟩ => ⟨.bool true, he, ?_⟩)
    simp only [Act.put, List.setIfInBounds_toArray, List.set_cons_zero, List.set_cons_succ]
    have B2 : Hid (Below w.heap.size w W2) := Lib.hid (B1.out.trans (bb.mono B1.out.size))
    clear bb
    refine wpL_pure (.bool true) rfl (by kernel_rfl) ?_
    simp only [Act.put, List.setIfInBounds_toArray, List.set_cons_zero, List.set_cons_succ]
    go_wp2_with fail
    go_ret
    exact ⟨rfl, B2.out⟩
  · have F : Hid (n ≤ 20) := Lib.hid (by omega)
    clear hbig
    go_upto_region 1 with (fail)
    refine wp_region_lit ?_
    refine wpL_call 8 #[] rfl (by kernel_rfl) ((awake_any w).mono fun e W1 ⟨he, bb⟩ => ⟨.bool true, he, ?_⟩)
    simp only [Act.put, List.setIfInBounds_toArray, List.set_cons_zero, List.set_cons_succ]
    have B1 : Hid (Below w.heap.size w W1) := Lib.hid bb
    clear bb
    refine wpL_pure (.bool false) rfl (by kernel_rfl) ?_
    simp only [Act.put, List.setIfInBounds_toArray, List.set_cons_zero, List.set_cons_succ]
    refine wpL_pure (.bool false) rfl (by kernel_rfl) ?_
    simp only [Act.put, List.setIfInBounds_toArray, List.set_cons_zero, List.set_cons_succ]
    refine wpL_pure (.slice a n ca) rfl (by kernel_rfl) ?_
    simp only [Act.put, List.setIfInBounds_toArray, List.set_cons_zero, List.set_cons_succ]
    refine wpL_pure (.int .i64 (n : Int)) rfl (by kernel_rfl) ?_
    simp only [Act.put, List.setIfInBounds_toArray, List.set_cons_zero, List.set_cons_succ]
    refine wpL_pure (.bool false) rfl (run_gti Try.underlying3 rfl rfl rfl (by have := F.out; rw [decide_eq_false_iff_not]; omega)) ?_
    simp only [Act.put, List.setIfInBounds_toArray, List.set_cons_zero, List.set_cons_succ]
    refine wpL_pure (.bool false) rfl (by kernel_rfl) ?_
    simp only [Act.put, List.setIfInBounds_toArray, List.set_cons_zero, List.set_cons_succ]
    go_upto_region 3 with (fail)
    refine wp_region_lit ?_
    refine wpL_call 9 #[.int .i64 40] rfl (by kernel_rfl) ((newD 40 (by omega) W1).mono fun e W2 ⟨b, gs, gm, he, d, bb, l1, l2, l3⟩ => ⟨.pointer (some ⟨b, 0, none⟩), he, ?_⟩)
    simp only [Act.put, List.setIfInBounds_toArray, List.set_cons_zero, List.set_cons_succ]
    have F1 : Hid (Below w.heap.size w W2 ∧ DS W2 b gs gm 40 [] 0 (zs 40) false 0 false ∧ w.heap.size ≤ b ∧ w.heap.size ≤ gs ∧ w.heap.size ≤ gm) := Lib.hid (by have z := B1.out.size; exact ⟨B1.out.trans (bb.mono B1.out.size), d, by omega, by omega, by omega⟩)
    clear bb d l1 l2 l3
    refine wpL_pure (.pointer (some ⟨b, 0, none⟩)) rfl (by kernel_rfl) ?_
    simp only [Act.put, List.setIfInBounds_toArray, List.set_cons_zero, List.set_cons_succ]
    go_upto_region 4 with (fail)
    refine wp_region_lit ?_
    refine wpL_pure (.string { data := #[] }) rfl (by kernel_rfl) ?_
    simp only [Act.put, List.setIfInBounds_toArray, List.set_cons_zero, List.set_cons_succ]
    go_upto_region 5 with (fail)
    refine wp_region_lit ?_
    refine wpL_pure (.int .i64 0) rfl (by kernel_rfl) ?_
    simp only [Act.put, List.setIfInBounds_toArray, List.set_cons_zero, List.set_cons_succ]
    unfold wpList
    go_wp2_with fail
    go_loopw [6, 7] (fun s6 s7 wr => ∃ k : Nat, (s6 = .string (strOfNums (flatK L k)) ∧ s7 = .int .i64 (k : Int)) ∧ Hid ((k ≤ n ∧ ∀ j, j < k → (L.getD j []).length ≤ 60) ∧ ∃ (dc : Nat) (fz : Int) (S : List (List Int)) (nt : List Int), (Below w.heap.size w wr ∧ DS wr b gs gm 40 [] dc S false fz false ∧ OpenIs S 2 28 k nt (flatK L k)) ∧ (k = 0 ∨ nt = List.replicate 16 (ntB x (k - 1))))) (fun _ s7 _ => n - (intOf s7).toNat)
    case atStart => exact ⟨0, ⟨rfl, rfl⟩, Lib.hid ⟨⟨by omega, fun j h => by omega⟩, _, _, _, _, ⟨F1.out.1, F1.out.2.1, zs_open 2 28 40 (by omega)⟩, .inl rfl⟩⟩
    case round =>
      obtain ⟨k, ⟨rfl, rfl⟩, RI0⟩ := hrel
      obtain ⟨⟨k1, k2⟩, dc, fz, S, nt, k3, k4⟩ := RI0.out
      have RK := Lib.hid (And.intro k1 k2)
      have RI := Lib.hid k3
      have RN := Lib.hid k4
      clear RI0 k1 k2 k3 k4
      have FL : Hid ((flatK L k).length ≤ 60 * k) := Lib.hid (flatK_len RK.out.2)
      by_cases hlt : k < n
      · have HK := Lib.hid hlt
        clear hlt
        obtain ⟨g, o, ea, hm, hp⟩ := HL.out.at HK.out
        have EA := Lib.hid ea
        obtain ⟨pa, pn, pc, ys, hy, hc, hs⟩ := hp
        have HY := Lib.hid hy
        have HC := Lib.hid hc
        have HS := Lib.hid hs
        have HM := Lib.hid hm
        clear ea hm hy hc hs
        go_upto_region 6 with (fail)
        refine wp_region_lit ?_
        refine wpL_pure (.int .i64 (k : Int)) rfl (by kernel_rfl) ?_
        simp only [Act.put, List.setIfInBounds_toArray, List.set_cons_zero, List.set_cons_succ]
        refine wpL_pure (.slice a n ca) rfl (by kernel_rfl) ?_
        simp only [Act.put, List.setIfInBounds_toArray, List.set_cons_zero, List.set_cons_succ]
        refine wpL_pure (.int .i64 (n : Int)) rfl (by kernel_rfl) ?_
        simp only [Act.put, List.setIfInBounds_toArray, List.set_cons_zero, List.set_cons_succ]
        refine wpL_pure (.bool true) rfl (run_lti Try.underlying3 rfl rfl rfl (by have := HK.out; rw [decide_eq_true_eq]; omega)) ?_
        simp only [Act.put, List.setIfInBounds_toArray, List.set_cons_zero, List.set_cons_succ]
        by_cases hlong : 60 < pn
        · have HG := Lib.hid hlong
          clear hlong
          go_upto_region 8 with (fail)
          refine wp_region_lit ?_
          refine wpL_pure (.slice a n ca) rfl (by kernel_rfl) ?_
          simp only [Act.put, List.setIfInBounds_toArray, List.set_cons_zero, List.set_cons_succ]
          refine wpL_pure (.int .i64 (k : Int)) rfl (by kernel_rfl) ?_
          simp only [Act.put, List.setIfInBounds_toArray, List.set_cons_zero, List.set_cons_succ]
          refine wpL_pure (.pointer (some ⟨g, o + k, none⟩)) rfl (run_idxp _ _ _ _ _ g o n ca k rfl (by rw [EA.out]; rfl) rfl HK.out HM.out) ?_
          simp only [Act.put, List.setIfInBounds_toArray, List.set_cons_zero, List.set_cons_succ]
          refine wpL_pure (.slice pa pn pc) rfl (run_load_one _ _ _ 26 _ _ rfl (g) (o + k) rfl (cell_keep HC.out RI.out.1) (by kernel_rfl)) ?_
          simp only [Act.put, List.setIfInBounds_toArray, List.set_cons_zero, List.set_cons_succ]
          refine wpL_pure (.int .i64 (pn : Int)) rfl (by kernel_rfl) ?_
          simp only [Act.put, List.setIfInBounds_toArray, List.set_cons_zero, List.set_cons_succ]
          refine wpL_pure (.bool true) rfl (run_gti Try.underlying3 rfl rfl rfl (by have := HG.out; rw [decide_eq_true_eq]; omega)) ?_
          simp only [Act.put, List.setIfInBounds_toArray, List.set_cons_zero, List.set_cons_succ]
          go_upto_region 9 with (fail)
          refine wp_region_lit ?_
          refine wpL_pure (.bool true) rfl (by kernel_rfl) ?_
          simp only [Act.put, List.setIfInBounds_toArray, List.set_cons_zero, List.set_cons_succ]
          go_wp2_with fail
          go_ret
          exact ⟨rfl, RI.out.1⟩
        · have HG : Hid (pn ≤ 60) := Lib.hid (by omega)
          clear hlong
          go_upto_region 8 with (fail)
          refine wp_region_lit ?_
          refine wpL_pure (.slice a n ca) rfl (by kernel_rfl) ?_
          simp only [Act.put, List.setIfInBounds_toArray, List.set_cons_zero, List.set_cons_succ]
          refine wpL_pure (.int .i64 (k : Int)) rfl (by kernel_rfl) ?_
          simp only [Act.put, List.setIfInBounds_toArray, List.set_cons_zero, List.set_cons_succ]
          refine wpL_pure (.pointer (some ⟨g, o + k, none⟩)) rfl (run_idxp _ _ _ _ _ g o n ca k rfl (by rw [EA.out]; rfl) rfl HK.out HM.out) ?_
          simp only [Act.put, List.setIfInBounds_toArray, List.set_cons_zero, List.set_cons_succ]
          refine wpL_pure (.slice pa pn pc) rfl (run_load_one _ _ _ 26 _ _ rfl (g) (o + k) rfl (cell_keep HC.out RI.out.1) (by kernel_rfl)) ?_
          simp only [Act.put, List.setIfInBounds_toArray, List.set_cons_zero, List.set_cons_succ]
          refine wpL_pure (.int .i64 (pn : Int)) rfl (by kernel_rfl) ?_
          simp only [Act.put, List.setIfInBounds_toArray, List.set_cons_zero, List.set_cons_succ]
          refine wpL_pure (.bool false) rfl (run_gti Try.underlying3 rfl rfl rfl (by have := HG.out; rw [decide_eq_false_iff_not]; omega)) ?_
          simp only [Act.put, List.setIfInBounds_toArray, List.set_cons_zero, List.set_cons_succ]
          go_upto_region 10 with (fail)
          refine wp_region_lit ?_
          refine wpL_pure (.pointer (some ⟨b, 0, none⟩)) rfl (by kernel_rfl) ?_
          simp only [Act.put, List.setIfInBounds_toArray, List.set_cons_zero, List.set_cons_succ]
          refine wpL_call 10 #[.pointer (some ⟨b, 0, none⟩), .int .i64 2, .int .i64 30] rfl (by kernel_rfl) ((open_ok RI.out.2.1 2 28 (by omega) (by omega)).mono ?_)
          rintro e W3 ⟨lb, s1, t1, b1, v1, c1, he, hl, op, bb, l1, l2⟩
          obtain ⟨rfl, rfl, rfl⟩ := RI.out.2.2.inj op
          have F3 : Hid (Below w.heap.size w W3 ∧ DS W3 b gs gm 40 [] dc S false fz false ∧ LG W3 b gs gm 40 2 28 lb k nt (flatK L k) v1 c1) := Lib.hid ⟨RI.out.1.trans (bb.mono RI.out.1.size), RI.out.2.1.below bb, hl⟩
          have LBX : Hid (w.heap.size ≤ lb ∧ ∀ q, (Value.slice v1 (flatK L k).length c1).ownBlock = some q → w.heap.size ≤ q) := Lib.hid (by have z := RI.out.1.size; exact ⟨by omega, fun q hq => by have := l2 q hq; omega⟩)
          clear hl op bb l1 l2
          refine ⟨.tuple #[.pointer (some ⟨lb, 0, none⟩), .int .i64 0], he, ?_⟩
          simp only [Act.put, List.setIfInBounds_toArray, List.set_cons_zero, List.set_cons_succ]
          clear he
          refine wpL_pure (.tuple #[.pointer (some ⟨lb, 0, none⟩), .int .i64 0]) rfl (by kernel_rfl) ?_
          simp only [Act.put, List.setIfInBounds_toArray, List.set_cons_zero, List.set_cons_succ]
          refine wpL_pure (.pointer (some ⟨lb, 0, none⟩)) rfl (by kernel_rfl) ?_
          simp only [Act.put, List.setIfInBounds_toArray, List.set_cons_zero, List.set_cons_succ]
          refine wpL_pure (.int .i64 0) rfl (by kernel_rfl) ?_
          simp only [Act.put, List.setIfInBounds_toArray, List.set_cons_zero, List.set_cons_succ]
          refine wpL_pure (.pointer (some ⟨lb, 0, none⟩)) rfl (by kernel_rfl) ?_
          simp only [Act.put, List.setIfInBounds_toArray, List.set_cons_zero, List.set_cons_succ]
          refine wpL_pure (.int .i64 0) rfl (by kernel_rfl) ?_
          simp only [Act.put, List.setIfInBounds_toArray, List.set_cons_zero, List.set_cons_succ]
          go_upto_region 11 with (fail)
          refine region_anyT (fun X => X.cell? ⟨g, o + k, none⟩ = some (.slice pa pn pc) ∧ True) (by kernel_rfl) 16 16 rfl ?_
          refine wpAnyT_take (i := 0) (oi := ⟨some 38, _, _, _, _, _⟩) (v := .int .i64 0) rfl (by kernel_rfl) (by kernel_rfl) (by kernel_rfl) (fun _ _ _ h => h) (by kernel_rfl) (Or.inl ⟨rfl, fun w h => by kernel_rfl⟩) (⟨cell_keep HC.out F3.out.1.drew, trivial⟩) ?_
          simp only [Act.put, List.setIfInBounds_toArray, List.set_cons_zero, List.set_cons_succ]
          refine wpAnyT_take (i := 1) (oi := ⟨some 39, _, _, _, _, _⟩) (v := .bool false) rfl (by kernel_rfl) (by kernel_rfl) (by kernel_rfl) (fun _ _ _ h => h) (by kernel_rfl) (Or.inl ⟨rfl, fun w h => by kernel_rfl⟩) (⟨cell_keep HC.out F3.out.1.drew, trivial⟩) ?_
          simp only [Act.put, List.setIfInBounds_toArray, List.set_cons_zero, List.set_cons_succ]
          refine wpAnyT_take (i := 2) (oi := ⟨some 40, _, _, _, _, _⟩) (v := .bool false) rfl (by kernel_rfl) (by kernel_rfl) (by kernel_rfl) (fun _ _ _ h => h) (by kernel_rfl) (Or.inl ⟨rfl, fun w h => by kernel_rfl⟩) (⟨cell_keep HC.out F3.out.1.drew, trivial⟩) ?_
          simp only [Act.put, List.setIfInBounds_toArray, List.set_cons_zero, List.set_cons_succ]
          refine wpAnyT_take (i := 3) (oi := ⟨some 41, _, _, _, _, _⟩) (v := .pointer (some ⟨lb, 0, none⟩)) rfl (by kernel_rfl) (by kernel_rfl) (by kernel_rfl) (fun _ _ _ h => h) (by kernel_rfl) (Or.inl ⟨rfl, fun w h => by kernel_rfl⟩) (⟨cell_keep HC.out F3.out.1.drew, trivial⟩) ?_
          simp only [Act.put, List.setIfInBounds_toArray, List.set_cons_zero, List.set_cons_succ]
          refine wpAnyT_take (i := 4) (oi := ⟨some 42, _, _, _, _, _⟩) (v := .slice a n ca) rfl (by kernel_rfl) (by kernel_rfl) (by kernel_rfl) (fun _ _ _ h => h) (by kernel_rfl) (Or.inl ⟨rfl, fun w h => by kernel_rfl⟩) (⟨cell_keep HC.out F3.out.1.drew, trivial⟩) ?_
          simp only [Act.put, List.setIfInBounds_toArray, List.set_cons_zero, List.set_cons_succ]
          refine wpAnyT_take (i := 5) (oi := ⟨some 43, _, _, _, _, _⟩) (v := .int .i64 (k : Int)) rfl (by kernel_rfl) (by kernel_rfl) (by kernel_rfl) (fun _ _ _ h => h) (by kernel_rfl) (Or.inl ⟨rfl, fun w h => by kernel_rfl⟩) (⟨cell_keep HC.out F3.out.1.drew, trivial⟩) ?_
          simp only [Act.put, List.setIfInBounds_toArray, List.set_cons_zero, List.set_cons_succ]
          refine wpAnyT_take (i := 6) (oi := ⟨some 44, _, _, _, _, _⟩) (v := .pointer (some ⟨g, o + k, none⟩)) rfl (by kernel_rfl) (by kernel_rfl) (by kernel_rfl) (fun _ _ _ h => h) (by kernel_rfl) (Or.inl ⟨rfl, fun w h => run_idxp _ _ _ _ _ g o n ca k rfl (by rw [EA.out]; rfl) rfl HK.out HM.out⟩) (⟨cell_keep HC.out F3.out.1.drew, trivial⟩) ?_
          simp only [Act.put, List.setIfInBounds_toArray, List.set_cons_zero, List.set_cons_succ]
          refine wpAnyT_take (i := 7) (oi := ⟨some 45, _, _, _, _, _⟩) (v := .slice pa pn pc) rfl (by kernel_rfl) (by kernel_rfl) (by kernel_rfl) (fun _ _ _ h => h) (by kernel_rfl) (Or.inl ⟨rfl, fun w h => run_load_one _ _ _ 26 _ _ rfl (g) (o + k) rfl (h.1) (by kernel_rfl)⟩) (⟨cell_keep HC.out F3.out.1.drew, trivial⟩) ?_
          simp only [Act.put, List.setIfInBounds_toArray, List.set_cons_zero, List.set_cons_succ]
          refine wpAnyT_take (i := 8) (oi := ⟨some 46, _, _, _, _, _⟩) (v := .int .u8 x) rfl (by kernel_rfl) (by kernel_rfl) (by kernel_rfl) (fun _ _ _ h => h) (by kernel_rfl) (Or.inl ⟨rfl, fun w h => by kernel_rfl⟩) (⟨cell_keep HC.out F3.out.1.drew, trivial⟩) ?_
          simp only [Act.put, List.setIfInBounds_toArray, List.set_cons_zero, List.set_cons_succ]
          refine wpAnyT_take (i := 9) (oi := ⟨some 47, _, _, _, _, _⟩) (v := .int .i64 (k : Int)) rfl (by kernel_rfl) (by kernel_rfl) (by kernel_rfl) (fun _ _ _ h => h) (by kernel_rfl) (Or.inl ⟨rfl, fun w h => by kernel_rfl⟩) (⟨cell_keep HC.out F3.out.1.drew, trivial⟩) ?_
          simp only [Act.put, List.setIfInBounds_toArray, List.set_cons_zero, List.set_cons_succ]
          refine wpAnyT_take (i := 10) (oi := ⟨some 48, _, _, _, _, _⟩) (v := .int .u8 (IntKind.u8.wrap (k : Int))) rfl (by kernel_rfl) (by kernel_rfl) (by kernel_rfl) (fun _ _ _ h => h) (by kernel_rfl) (Or.inl ⟨rfl, fun w h => run_convi Try.underlying3 Try.underlying5 rfl rfl _ rfl⟩) (⟨cell_keep HC.out F3.out.1.drew, trivial⟩) ?_
          simp only [Act.put, List.setIfInBounds_toArray, List.set_cons_zero, List.set_cons_succ]
          refine wpAnyT_take (i := 11) (oi := ⟨some 49, _, _, _, _, _⟩) (v := .int .u8 (ntB x k)) rfl (by kernel_rfl) (by kernel_rfl) (by kernel_rfl) (fun _ _ _ h => h) (by kernel_rfl) (Or.inl ⟨rfl, fun w h => run_addi Try.underlying5 rfl rfl rfl _ rfl⟩) (⟨cell_keep HC.out F3.out.1.drew, trivial⟩) ?_
          simp only [Act.put, List.setIfInBounds_toArray, List.set_cons_zero, List.set_cons_succ]
          refine wpAnyT_one (i := 12) (by kernel_rfl) ?_
          refine op_call (o := ⟨some 50, _, _, _, _, _⟩) 12 #[.int .u8 (ntB x k)] rfl rfl (by kernel_rfl) ((notef_any _ (ntB x k)).mono fun e W4 h => ⟨.agg (u8l (List.replicate 16 (ntB x k))).toArray, h.1, ?_, ?_⟩)
          · exact fun _ => ⟨cell_keep HC.out (F3.out.1.trans (((Below.refl _ W3).drew.trans h.2).mono F3.out.1.size)), trivial⟩
          simp only [Act.put, List.setIfInBounds_toArray, List.set_cons_zero, List.set_cons_succ]
          have bb : Below W3.heap.size W3 W4 := (Below.refl _ W3).drew.trans h.2
          have F4 : Hid (Below w.heap.size w W4 ∧ DS W4 b gs gm 40 [] dc S false fz false ∧ LG W4 b gs gm 40 2 28 lb k nt (flatK L k) v1 c1) := Lib.hid ⟨F3.out.1.trans (bb.mono F3.out.1.size), F3.out.2.1.below bb, F3.out.2.2.below bb⟩
          clear h bb F3
          refine wpAnyT_one (i := 13) (by kernel_rfl) ?_
          refine op_call (o := ⟨some 51, _, _, _, _, _⟩) 11 #[.pointer (some ⟨lb, 0, none⟩), .slice pa pn pc, .agg (u8l (List.replicate 16 (ntB x k))).toArray] rfl rfl (by kernel_rfl) ((app_ok F4.out.2.2 F4.out.2.1 RI.out.2.2 (by have := RK.out; have := F.out; omega) pa pn pc ys (HS.out.below' F4.out.1) (fun hm p hp => by have q := sl_lt HS.out hm p hp; have e := F1.out.2.2; omega) (List.replicate 16 (ntB x k)) (nt_ok _ (ntB_ok x k)) (by have := FL.out; have := HK.out; have := F.out; have := HG.out; omega)).mono fun e W5 h => ?_)
          obtain ⟨he, dc5, fz5, S5, v5, c5, hl, hd, ho, hu, hf, hn⟩ := h
          have F5 : Hid (Below w.heap.size w W5 ∧ DS W5 b gs gm 40 [] dc5 S5 false fz5 false ∧ OpenIs S5 2 28 (k + 1) (List.replicate 16 (ntB x k)) (flatK L k ++ ys)) := Lib.hid ⟨hf.below F4.out.1 (fun q hq => by have e := F1.out.2.2; have e2 := LBX.out.1; rcases hq with z | z | z | z | z <;> first | omega | exact LBX.out.2 q z), hd, ho⟩
          refine ⟨.int .i64 0, he, fun _ => ⟨cell_keep HC.out F5.out.1, trivial⟩, ?_⟩
          simp only [Act.put, List.setIfInBounds_toArray, List.set_cons_zero, List.set_cons_succ]
          clear he hl hd ho hu hf hn
          refine wpAnyT_take (i := 14) (oi := ⟨some 52, _, _, _, _, _⟩) (v := .bool false) rfl (by kernel_rfl) (by kernel_rfl) (by kernel_rfl) (fun _ _ _ h => h) (by kernel_rfl) (Or.inl ⟨rfl, fun w h => by kernel_rfl⟩) (⟨cell_keep HC.out F5.out.1, trivial⟩) ?_
          simp only [Act.put, List.setIfInBounds_toArray, List.set_cons_zero, List.set_cons_succ]
          refine wpAnyT_take (i := 15) (oi := ⟨some 53, _, _, _, _, _⟩) (v := .bool false) rfl (by kernel_rfl) (by kernel_rfl) (by kernel_rfl) (fun _ _ _ h => h) (by kernel_rfl) (Or.inl ⟨rfl, fun w h => by kernel_rfl⟩) (⟨cell_keep HC.out F5.out.1, trivial⟩) ?_
          simp only [Act.put, List.setIfInBounds_toArray, List.set_cons_zero, List.set_cons_succ]
          refine wpAnyT_done (by kernel_rfl) ?_ _
          go_upto_region 13 with (fail)
          refine wp_region_lit ?_
          refine wpL_pure (.string (strOfNums (flatK L k))) rfl (by kernel_rfl) ?_
          simp only [Act.put, List.setIfInBounds_toArray, List.set_cons_zero, List.set_cons_succ]
          refine wpL_pure (.slice a n ca) rfl (by kernel_rfl) ?_
          simp only [Act.put, List.setIfInBounds_toArray, List.set_cons_zero, List.set_cons_succ]
          refine wpL_pure (.int .i64 (k : Int)) rfl (by kernel_rfl) ?_
          simp only [Act.put, List.setIfInBounds_toArray, List.set_cons_zero, List.set_cons_succ]
          refine wpL_pure (.pointer (some ⟨g, o + k, none⟩)) rfl (run_idxp _ _ _ _ _ g o n ca k rfl (by rw [EA.out]; rfl) rfl HK.out HM.out) ?_
          simp only [Act.put, List.setIfInBounds_toArray, List.set_cons_zero, List.set_cons_succ]
          refine wpL_pure (.slice pa pn pc) rfl (run_load_one _ _ _ 26 _ _ rfl (g) (o + k) rfl (cell_keep HC.out F5.out.1) (by kernel_rfl)) ?_
          simp only [Act.put, List.setIfInBounds_toArray, List.set_cons_zero, List.set_cons_succ]
          refine wpL_pure (.string (strOfNums ys)) rfl (run_conv_str _ _ _ _ pa pn pc ys rfl rfl (HS.out.1.keep F5.out.1)) ?_
          simp only [Act.put, List.setIfInBounds_toArray, List.set_cons_zero, List.set_cons_succ]
          refine wpL_pure (.string (strOfNums (flatK L k ++ ys))) rfl (run_str_cat _ _ _ _ _ _ _ rfl rfl rfl (by have := FL.out; have := HK.out; have := F.out; omega) (by have := HS.out.1.1; have := HG.out; omega)) ?_
          simp only [Act.put, List.setIfInBounds_toArray, List.set_cons_zero, List.set_cons_succ]
          refine wpL_pure (.string (strOfNums (flatK L k ++ ys))) rfl (by kernel_rfl) ?_
          simp only [Act.put, List.setIfInBounds_toArray, List.set_cons_zero, List.set_cons_succ]
          go_upto_region 7 with (fail)
          refine wp_region_lit ?_
          refine wpL_pure (.int .i64 (k : Int)) rfl (by kernel_rfl) ?_
          simp only [Act.put, List.setIfInBounds_toArray, List.set_cons_zero, List.set_cons_succ]
          refine wpL_pure (.int .i64 ((k + 1 : Nat) : Int)) rfl (run_addi Try.underlying3 rfl rfl rfl _ (by have := HK.out; have := F.out; rw [wrap_in _ (by omega) (by omega)]; omega)) ?_
          simp only [Act.put, List.setIfInBounds_toArray, List.set_cons_zero, List.set_cons_succ]
          refine wpL_pure (.int .i64 ((k + 1 : Nat) : Int)) rfl (by kernel_rfl) ?_
          simp only [Act.put, List.setIfInBounds_toArray, List.set_cons_zero, List.set_cons_succ]
          have NX : Hid ((k + 1 ≤ n ∧ ∀ j, j < k + 1 → (L.getD j []).length ≤ 60) ∧ ∃ (dc : Nat) (fz : Int) (S : List (List Int)) (nt : List Int), (Below w.heap.size w W5 ∧ DS W5 b gs gm 40 [] dc S false fz false ∧ OpenIs S 2 28 (k + 1) nt (flatK L (k + 1))) ∧ (k + 1 = 0 ∨ nt = List.replicate 16 (ntB x (k + 1 - 1)))) := Lib.hid ⟨⟨HK.out, fun j h => by
              by_cases q : j < k
              · exact RK.out.2 j q
              · obtain rfl : j = k := by omega
                rw [HY.out, HS.out.1.1]; exact HG.out⟩, dc5, fz5, S5, _, ⟨F5.out.1, F5.out.2.1, by rw [flatK, HY.out]; exact F5.out.2.2⟩, .inr (by rw [Nat.add_sub_cancel])⟩
          have EQF : flatK L k ++ ys = flatK L (k + 1) := by rw [flatK, HY.out]
          rw [EQF]
          clear EQF
          unfold wpList
          go_roundw
          case rel => first | exact ⟨_, ⟨rfl, rfl⟩, NX⟩ | ((repeat apply Exists.intro); exact ⟨⟨_, ⟨rfl, rfl⟩, NX⟩, rfl⟩)
          case measure => simp [intOf]; have := HK.out; omega
      · have EK : Hid (k = n) := Lib.hid (by have := RK.out.1; omega)
        clear hlt
        go_upto_region 6 with (fail)
        refine wp_region_lit ?_
        refine wpL_pure (.int .i64 (k : Int)) rfl (by kernel_rfl) ?_
        simp only [Act.put, List.setIfInBounds_toArray, List.set_cons_zero, List.set_cons_succ]
        refine wpL_pure (.slice a n ca) rfl (by kernel_rfl) ?_
        simp only [Act.put, List.setIfInBounds_toArray, List.set_cons_zero, List.set_cons_succ]
        refine wpL_pure (.int .i64 (n : Int)) rfl (by kernel_rfl) ?_
        simp only [Act.put, List.setIfInBounds_toArray, List.set_cons_zero, List.set_cons_succ]
        refine wpL_pure (.bool false) rfl (run_lti Try.underlying3 rfl rfl rfl (by have := EK.out; rw [decide_eq_false_iff_not]; omega)) ?_
        simp only [Act.put, List.setIfInBounds_toArray, List.set_cons_zero, List.set_cons_succ]
        go_upto_region 14 with (fail)
        refine wp_region_lit ?_
        refine wpL_pure (.pointer (some ⟨b, 0, none⟩)) rfl (by kernel_rfl) ?_
        simp only [Act.put, List.setIfInBounds_toArray, List.set_cons_zero, List.set_cons_succ]
        refine wpL_call 10 #[.pointer (some ⟨b, 0, none⟩), .int .i64 2, .int .i64 30] rfl (by kernel_rfl) ((open_ok RI.out.2.1 2 28 (by omega) (by omega)).mono ?_)
        rintro e W3 ⟨lb, s1, t1, b1, v1, c1, he, hl, op, bb, _, _⟩
        obtain ⟨rfl, rfl, rfl⟩ := RI.out.2.2.inj op
        have F3 : Hid (Below w.heap.size w W3 ∧ LG W3 b gs gm 40 2 28 lb k nt (flatK L k) v1 c1) := Lib.hid ⟨RI.out.1.trans (bb.mono RI.out.1.size), hl⟩
        clear hl op bb
        refine ⟨.tuple #[.pointer (some ⟨lb, 0, none⟩), .int .i64 0], he, ?_⟩
        simp only [Act.put, List.setIfInBounds_toArray, List.set_cons_zero, List.set_cons_succ]
        clear he
        refine wpL_pure (.tuple #[.pointer (some ⟨lb, 0, none⟩), .int .i64 0]) rfl (by kernel_rfl) ?_
        simp only [Act.put, List.setIfInBounds_toArray, List.set_cons_zero, List.set_cons_succ]
        refine wpL_pure (.pointer (some ⟨lb, 0, none⟩)) rfl (by kernel_rfl) ?_
        simp only [Act.put, List.setIfInBounds_toArray, List.set_cons_zero, List.set_cons_succ]
        refine wpL_pure (.int .i64 0) rfl (by kernel_rfl) ?_
        simp only [Act.put, List.setIfInBounds_toArray, List.set_cons_zero, List.set_cons_succ]
        refine wpL_pure (.pointer (some ⟨lb, 0, none⟩)) rfl (by kernel_rfl) ?_
        simp only [Act.put, List.setIfInBounds_toArray, List.set_cons_zero, List.set_cons_succ]
        refine wpL_pure (.int .i64 0) rfl (by kernel_rfl) ?_
        simp only [Act.put, List.setIfInBounds_toArray, List.set_cons_zero, List.set_cons_succ]
        by_cases hz : n = 0
        · have HZ := Lib.hid hz
          clear hz
          go_upto_region 15 with (fail)
          refine wp_region_lit ?_
          refine wpL_pure (.int .i64 0) rfl (by kernel_rfl) ?_
          simp only [Act.put, List.setIfInBounds_toArray, List.set_cons_zero, List.set_cons_succ]
          refine wpL_pure (.bool true) rfl (by kernel_rfl) ?_
          simp only [Act.put, List.setIfInBounds_toArray, List.set_cons_zero, List.set_cons_succ]
          refine wpL_pure (.bool true) rfl (by kernel_rfl) ?_
          simp only [Act.put, List.setIfInBounds_toArray, List.set_cons_zero, List.set_cons_succ]
          refine wpL_pure (.pointer (some ⟨lb, 0, none⟩)) rfl (by kernel_rfl) ?_
          simp only [Act.put, List.setIfInBounds_toArray, List.set_cons_zero, List.set_cons_succ]
          refine wpL_call 13 #[.pointer (some ⟨lb, 0, none⟩)] rfl (by kernel_rfl) ((bytes_any (v := undef) F3.out.2.1 F3.out.2.2.1 (by have := F3.out.2.2.2.1; omega)).mono fun e W4 ⟨u, he, hb, ho⟩ => ⟨u, he, ?_⟩)
          simp only [Act.put, List.setIfInBounds_toArray, List.set_cons_zero, List.set_cons_succ]
          obtain ⟨ua, uc, eu⟩ := ho.slice
          subst eu
          have F4 : Hid (Below w.heap.size w W4 ∧ LG W4 b gs gm 40 2 28 lb k nt (flatK L k) v1 c1 ∧ Row W4 ua (flatK L k).length (flatK L k)) := Lib.hid ⟨F3.out.1.trans (hb.mono F3.out.1.size), F3.out.2.below hb, ho.row.1⟩
          clear hb ho
          refine wpL_pure (.string (strOfNums (flatK L k))) rfl (run_conv_str _ _ _ _ ua _ uc _ rfl rfl F4.out.2.2) ?_
          simp only [Act.put, List.setIfInBounds_toArray, List.set_cons_zero, List.set_cons_succ]
          refine wpL_pure (.string (strOfNums (flatK L k))) rfl (by kernel_rfl) ?_
          simp only [Act.put, List.setIfInBounds_toArray, List.set_cons_zero, List.set_cons_succ]
          refine wpL_pure (.bool true) rfl (run_str_eql _ _ _ _ _ _ _ true rfl rfl rfl (by simp) F4.out.2.2.2.2.1 F4.out.2.2.2.2.1) ?_
          simp only [Act.put, List.setIfInBounds_toArray, List.set_cons_zero, List.set_cons_succ]
          refine wpL_pure (.bool true) rfl (by kernel_rfl) ?_
          simp only [Act.put, List.setIfInBounds_toArray, List.set_cons_zero, List.set_cons_succ]
          refine wpL_pure (.bool true) rfl (by kernel_rfl) ?_
          simp only [Act.put, List.setIfInBounds_toArray, List.set_cons_zero, List.set_cons_succ]
          refine wpL_pure (.pointer (some ⟨lb, 0, none⟩)) rfl (by kernel_rfl) ?_
          simp only [Act.put, List.setIfInBounds_toArray, List.set_cons_zero, List.set_cons_succ]
          refine wpL_call 14 #[.pointer (some ⟨lb, 0, none⟩)] rfl (by kernel_rfl) ((serialD F4.out.2.1.1).mono fun e X ⟨he, hx⟩ => ⟨.int .u64 ((k : Nat) : Int), he, ?_⟩)
          simp only [Act.put, List.setIfInBounds_toArray, List.set_cons_zero, List.set_cons_succ]
          subst hx
          refine wpL_pure (.slice a n ca) rfl (by kernel_rfl) ?_
          simp only [Act.put, List.setIfInBounds_toArray, List.set_cons_zero, List.set_cons_succ]
          refine wpL_pure (.int .i64 (n : Int)) rfl (by kernel_rfl) ?_
          simp only [Act.put, List.setIfInBounds_toArray, List.set_cons_zero, List.set_cons_succ]
          refine wpL_pure (.int .u64 ((n : Nat) : Int)) rfl (run_convi Try.underlying3 Try.underlying35 rfl rfl _ (by have := F.out; rw [IntKind.wrap_u64]; omega)) ?_
          simp only [Act.put, List.setIfInBounds_toArray, List.set_cons_zero, List.set_cons_succ]
          refine wpL_pure (.bool true) rfl (run_eqi Try.underlying35 rfl rfl rfl (by have := EK.out; rw [decide_eq_true_eq]; omega)) ?_
          simp only [Act.put, List.setIfInBounds_toArray, List.set_cons_zero, List.set_cons_succ]
          refine wpL_pure (.bool true) rfl (by kernel_rfl) ?_
          simp only [Act.put, List.setIfInBounds_toArray, List.set_cons_zero, List.set_cons_succ]
          refine wpL_pure (.bool true) rfl (by kernel_rfl) ?_
          simp only [Act.put, List.setIfInBounds_toArray, List.set_cons_zero, List.set_cons_succ]
          refine wpL_pure (.slice a n ca) rfl (by kernel_rfl) ?_
          simp only [Act.put, List.setIfInBounds_toArray, List.set_cons_zero, List.set_cons_succ]
          refine wpL_pure (.int .i64 (n : Int)) rfl (by kernel_rfl) ?_
          simp only [Act.put, List.setIfInBounds_toArray, List.set_cons_zero, List.set_cons_succ]
          refine wpL_pure (.bool true) rfl (run_eqi Try.underlying3 rfl rfl rfl (by have := HZ.out; rw [decide_eq_true_eq]; omega)) ?_
          simp only [Act.put, List.setIfInBounds_toArray, List.set_cons_zero, List.set_cons_succ]
          refine wpL_pure (.bool true) rfl (by kernel_rfl) ?_
          simp only [Act.put, List.setIfInBounds_toArray, List.set_cons_zero, List.set_cons_succ]
          refine wpL_skip (by kernel_rfl) ?_
          simp only [Act.put, List.setIfInBounds_toArray, List.set_cons_zero, List.set_cons_succ]
          refine wpL_skip (by kernel_rfl) ?_
          simp only [Act.put, List.setIfInBounds_toArray, List.set_cons_zero, List.set_cons_succ]
          refine wpL_skip (by kernel_rfl) ?_
          simp only [Act.put, List.setIfInBounds_toArray, List.set_cons_zero, List.set_cons_succ]
          refine wpL_skip (by kernel_rfl) ?_
          simp only [Act.put, List.setIfInBounds_toArray, List.set_cons_zero, List.set_cons_succ]
          refine wpL_skip (by kernel_rfl) ?_
          simp only [Act.put, List.setIfInBounds_toArray, List.set_cons_zero, List.set_cons_succ]
          refine wpL_skip (by kernel_rfl) ?_
          simp only [Act.put, List.setIfInBounds_toArray, List.set_cons_zero, List.set_cons_succ]
          refine wpL_skip (by kernel_rfl) ?_
          simp only [Act.put, List.setIfInBounds_toArray, List.set_cons_zero, List.set_cons_succ]
          refine wpL_skip (by kernel_rfl) ?_
          simp only [Act.put, List.setIfInBounds_toArray, List.set_cons_zero, List.set_cons_succ]
          refine wpL_skip (by kernel_rfl) ?_
          simp only [Act.put, List.setIfInBounds_toArray, List.set_cons_zero, List.set_cons_succ]
          refine wpL_skip (by kernel_rfl) ?_
          simp only [Act.put, List.setIfInBounds_toArray, List.set_cons_zero, List.set_cons_succ]
          refine wpL_pure (.bool true) rfl (by kernel_rfl) ?_
          simp only [Act.put, List.setIfInBounds_toArray, List.set_cons_zero, List.set_cons_succ]
          refine wpL_pure (.bool true) rfl (by kernel_rfl) ?_
          simp only [Act.put, List.setIfInBounds_toArray, List.set_cons_zero, List.set_cons_succ]
          refine wpL_pure (.bool true) rfl (by kernel_rfl) ?_
          simp only [Act.put, List.setIfInBounds_toArray, List.set_cons_zero, List.set_cons_succ]
          go_wp2_with fail
          go_ret
          exact ⟨rfl, F4.out.1⟩
        · have HZ := Lib.hid hz
          clear hz
          go_upto_region 15 with (fail)
          refine wp_region_lit ?_
          refine wpL_pure (.int .i64 0) rfl (by kernel_rfl) ?_
          simp only [Act.put, List.setIfInBounds_toArray, List.set_cons_zero, List.set_cons_succ]
          refine wpL_pure (.bool true) rfl (by kernel_rfl) ?_
          simp only [Act.put, List.setIfInBounds_toArray, List.set_cons_zero, List.set_cons_succ]
          refine wpL_pure (.bool true) rfl (by kernel_rfl) ?_
          simp only [Act.put, List.setIfInBounds_toArray, List.set_cons_zero, List.set_cons_succ]
          refine wpL_pure (.pointer (some ⟨lb, 0, none⟩)) rfl (by kernel_rfl) ?_
          simp only [Act.put, List.setIfInBounds_toArray, List.set_cons_zero, List.set_cons_succ]
          refine wpL_call 13 #[.pointer (some ⟨lb, 0, none⟩)] rfl (by kernel_rfl) ((bytes_any (v := undef) F3.out.2.1 F3.out.2.2.1 (by have := F3.out.2.2.2.1; omega)).mono fun e W4 ⟨u, he, hb, ho⟩ => ⟨u, he, ?_⟩)
          simp only [Act.put, List.setIfInBounds_toArray, List.set_cons_zero, List.set_cons_succ]
          obtain ⟨ua, uc, eu⟩ := ho.slice
          subst eu
          have F4 : Hid (Below w.heap.size w W4 ∧ LG W4 b gs gm 40 2 28 lb k nt (flatK L k) v1 c1 ∧ Row W4 ua (flatK L k).length (flatK L k)) := Lib.hid ⟨F3.out.1.trans (hb.mono F3.out.1.size), F3.out.2.below hb, ho.row.1⟩
          clear hb ho
          refine wpL_pure (.string (strOfNums (flatK L k))) rfl (run_conv_str _ _ _ _ ua _ uc _ rfl rfl F4.out.2.2) ?_
          simp only [Act.put, List.setIfInBounds_toArray, List.set_cons_zero, List.set_cons_succ]
          refine wpL_pure (.string (strOfNums (flatK L k))) rfl (by kernel_rfl) ?_
          simp only [Act.put, List.setIfInBounds_toArray, List.set_cons_zero, List.set_cons_succ]
          refine wpL_pure (.bool true) rfl (run_str_eql _ _ _ _ _ _ _ true rfl rfl rfl (by simp) F4.out.2.2.2.2.1 F4.out.2.2.2.2.1) ?_
          simp only [Act.put, List.setIfInBounds_toArray, List.set_cons_zero, List.set_cons_succ]
          refine wpL_pure (.bool true) rfl (by kernel_rfl) ?_
          simp only [Act.put, List.setIfInBounds_toArray, List.set_cons_zero, List.set_cons_succ]
          refine wpL_pure (.bool true) rfl (by kernel_rfl) ?_
          simp only [Act.put, List.setIfInBounds_toArray, List.set_cons_zero, List.set_cons_succ]
          refine wpL_pure (.pointer (some ⟨lb, 0, none⟩)) rfl (by kernel_rfl) ?_
          simp only [Act.put, List.setIfInBounds_toArray, List.set_cons_zero, List.set_cons_succ]
          refine wpL_call 14 #[.pointer (some ⟨lb, 0, none⟩)] rfl (by kernel_rfl) ((serialD F4.out.2.1.1).mono fun e X ⟨he, hx⟩ => ⟨.int .u64 ((k : Nat) : Int), he, ?_⟩)
          simp only [Act.put, List.setIfInBounds_toArray, List.set_cons_zero, List.set_cons_succ]
          subst hx
          refine wpL_pure (.slice a n ca) rfl (by kernel_rfl) ?_
          simp only [Act.put, List.setIfInBounds_toArray, List.set_cons_zero, List.set_cons_succ]
          refine wpL_pure (.int .i64 (n : Int)) rfl (by kernel_rfl) ?_
          simp only [Act.put, List.setIfInBounds_toArray, List.set_cons_zero, List.set_cons_succ]
          refine wpL_pure (.int .u64 ((n : Nat) : Int)) rfl (run_convi Try.underlying3 Try.underlying35 rfl rfl _ (by have := F.out; rw [IntKind.wrap_u64]; omega)) ?_
          simp only [Act.put, List.setIfInBounds_toArray, List.set_cons_zero, List.set_cons_succ]
          refine wpL_pure (.bool true) rfl (run_eqi Try.underlying35 rfl rfl rfl (by have := EK.out; rw [decide_eq_true_eq]; omega)) ?_
          simp only [Act.put, List.setIfInBounds_toArray, List.set_cons_zero, List.set_cons_succ]
          refine wpL_pure (.bool true) rfl (by kernel_rfl) ?_
          simp only [Act.put, List.setIfInBounds_toArray, List.set_cons_zero, List.set_cons_succ]
          refine wpL_pure (.bool true) rfl (by kernel_rfl) ?_
          simp only [Act.put, List.setIfInBounds_toArray, List.set_cons_zero, List.set_cons_succ]
          refine wpL_pure (.slice a n ca) rfl (by kernel_rfl) ?_
          simp only [Act.put, List.setIfInBounds_toArray, List.set_cons_zero, List.set_cons_succ]
          refine wpL_pure (.int .i64 (n : Int)) rfl (by kernel_rfl) ?_
          simp only [Act.put, List.setIfInBounds_toArray, List.set_cons_zero, List.set_cons_succ]
          refine wpL_pure (.bool false) rfl (run_eqi Try.underlying3 rfl rfl rfl (by have := HZ.out; rw [decide_eq_false_iff_not]; omega)) ?_
          simp only [Act.put, List.setIfInBounds_toArray, List.set_cons_zero, List.set_cons_succ]
          refine wpL_pure (.bool false) rfl (by kernel_rfl) ?_
          simp only [Act.put, List.setIfInBounds_toArray, List.set_cons_zero, List.set_cons_succ]
          refine wpL_pure (.pointer (some ⟨lb, 0, none⟩)) rfl (by kernel_rfl) ?_
          simp only [Act.put, List.setIfInBounds_toArray, List.set_cons_zero, List.set_cons_succ]
          refine wpL_call 15 #[.pointer (some ⟨lb, 0, none⟩)] rfl (by kernel_rfl) ((note_any F4.out.2.1.1).mono fun e W5 ⟨he, hb⟩ => ⟨.agg (u8l nt).toArray, he, ?_⟩)
          simp only [Act.put, List.setIfInBounds_toArray, List.set_cons_zero, List.set_cons_succ]
          have F5 : Hid (Below w.heap.size w W5) := Lib.hid (F4.out.1.trans (hb.mono F4.out.1.size))
          clear hb
          refine wpL_pure (.int .u8 x) rfl (by kernel_rfl) ?_
          simp only [Act.put, List.setIfInBounds_toArray, List.set_cons_zero, List.set_cons_succ]
          refine wpL_pure (.slice a n ca) rfl (by kernel_rfl) ?_
          simp only [Act.put, List.setIfInBounds_toArray, List.set_cons_zero, List.set_cons_succ]
          refine wpL_pure (.int .i64 (n : Int)) rfl (by kernel_rfl) ?_
          simp only [Act.put, List.setIfInBounds_toArray, List.set_cons_zero, List.set_cons_succ]
          refine wpL_pure (.int .i64 ((n - 1 : Nat) : Int)) rfl (run_subi Try.underlying3 rfl rfl rfl _ (by have := HZ.out; have := F.out; rw [wrap_in _ (by omega) (by omega)]; omega)) ?_
          simp only [Act.put, List.setIfInBounds_toArray, List.set_cons_zero, List.set_cons_succ]
          refine wpL_pure (.int .u8 (IntKind.u8.wrap ((n - 1 : Nat) : Int))) rfl (run_convi Try.underlying3 Try.underlying5 rfl rfl _ rfl) ?_
          simp only [Act.put, List.setIfInBounds_toArray, List.set_cons_zero, List.set_cons_succ]
          refine wpL_pure (.int .u8 (ntB x (n - 1))) rfl (run_addi Try.underlying5 rfl rfl rfl _ rfl) ?_
          simp only [Act.put, List.setIfInBounds_toArray, List.set_cons_zero, List.set_cons_succ]
          refine wpL_call 12 #[.int .u8 (ntB x (n - 1))] rfl (by kernel_rfl) ((notef_any W5 (ntB x (n - 1))).mono fun e W6 ⟨he, hb⟩ => ⟨.agg (u8l (List.replicate 16 (ntB x (n - 1)))).toArray, he, ?_⟩)
          simp only [Act.put, List.setIfInBounds_toArray, List.set_cons_zero, List.set_cons_succ]
          have F6 : Hid (Below w.heap.size w W6) := Lib.hid (F5.out.trans (hb.mono F5.out.size))
          clear hb
          refine wpL_pure (.bool true) rfl ((run_eq16 _ _ _ _ _ nt (List.replicate 16 (ntB x (n - 1))) F4.out.2.1.1.2.1.1 (by simp) rfl rfl rfl).trans (by rw [decide_eq_true (show nt = List.replicate 16 (ntB x (n - 1)) from by rcases RN.out with q | q <;> first | (have := EK.out; have := HZ.out; omega) | (rw [q, EK.out]))])) ?_
          simp only [Act.put, List.setIfInBounds_toArray, List.set_cons_zero, List.set_cons_succ]
          refine wpL_pure (.bool true) rfl (by kernel_rfl) ?_
          simp only [Act.put, List.setIfInBounds_toArray, List.set_cons_zero, List.set_cons_succ]
          refine wpL_pure (.bool true) rfl (by kernel_rfl) ?_
          simp only [Act.put, List.setIfInBounds_toArray, List.set_cons_zero, List.set_cons_succ]
          refine wpL_pure (.bool true) rfl (by kernel_rfl) ?_
          simp only [Act.put, List.setIfInBounds_toArray, List.set_cons_zero, List.set_cons_succ]
          go_wp2_with fail
          go_ret
          exact ⟨rfl, F6.out⟩
end Go.Proofs.Yteabblmhcjpboaa.D
