/- Write. -/
import Derived.Test.YteabblmhcjpboaaDE2
import Derived.Test.YteabblmhcjpboaaDZ
namespace Go.Proofs.Yteabblmhcjpboaa.D
open Go Go.RowKit
set_option maxRecDepth 100000
def wrL (L : List (Int × List Int × Nat)) (c : Nat) (i : Int) (s : List Int) : List (Int × List Int × Nat) × Nat := if ∃ e ∈ L, e.1 = i then (L, c) else (L ++ [(i, s, c)], c + 1)
def WPost (b gs gm n c : Nat) (L : List (Int × List Int × Nat)) (S : List (List Int)) (fu go : Bool) (fz i : Int) (m : Nat) (xs : List Int) (w : World) (e : Ending) (w' : World) : Prop :=
      (¬ ((0 ≤ i ∧ i < (n : Int)) ∧ m = 64) ∧ e = .returned (.int .i64 1) ∧ DS w' b gs gm n L c S fu fz go ∧ Fd b gs gm w w') ∨
      ((0 ≤ i ∧ i < (n : Int)) ∧ mayB fu fz go = false ∧ e = .returned (.int .i64 5) ∧ DS w' b gs gm n L c S fu (mayF fu fz go) true ∧ Fd b gs gm w w') ∨
      ((0 ≤ i ∧ i < (n : Int)) ∧ mayB fu fz go = true ∧ e = .returned (.int .i64 0) ∧ ∃ (k : Nat) (s : List Int), i = (k : Int) ∧ S[k]? = some s ∧ DS w' b gs gm n (wrL L c i s).1 (wrL L c i s).2 (S.set k xs) fu (mayF fu fz go) false ∧ Fd b gs gm w w')
def WPost2 (b gs gm n c : Nat) (L : List (Int × List Int × Nat)) (S : List (List Int)) (fu go : Bool) (fz i : Int) (m : Nat) (xs : List Int) (w : World) (e : Ending) (w' : World) : Prop :=
      (¬ ((0 ≤ i ∧ i < (n : Int)) ∧ m = 64) ∧ e = .returned (.int .i64 1) ∧ DS w' b gs gm n L c S fu fz go ∧ Fd b gs gm w w') ∨
      ((0 ≤ i ∧ i < (n : Int)) ∧ m = 64 ∧ mayB fu fz go = false ∧ e = .returned (.int .i64 5) ∧ DS w' b gs gm n L c S fu (mayF fu fz go) true ∧ Fd b gs gm w w') ∨
      ((0 ≤ i ∧ i < (n : Int)) ∧ m = 64 ∧ mayB fu fz go = true ∧ e = .returned (.int .i64 0) ∧ ∃ (k : Nat) (s : List Int), i = (k : Int) ∧ S[k]? = some s ∧ DS w' b gs gm n (wrL L c i s).1 (wrL L c i s).2 (S.set k xs) fu (mayF fu fz go) false ∧ Fd b gs gm w w')
theorem row_addr {w : World} {a : Option Addr} {m : Nat} {xs : List Int} (h : Row w a m xs) (hm : 0 < m) : ∃ g o, a = some ⟨g, o, none⟩ := by
  obtain ⟨g, o, e, _⟩ := h.2.2.2 0 hm
  exact ⟨g, o, e⟩
attribute [local irreducible] wpList
set_option maxHeartbeats 2000000 in
set_option maxRecDepth 100000 in
theorem writeD2 {w : World} {b gs gm n c : Nat} {L : List (Int × List Int × Nat)} {S : List (List Int)} {fu go : Bool} {fz : Int} (h : DS w b gs gm n L c S fu fz go) (i : Int) (a : Option Addr) (m cx : Nat) (xs : List Int) (hr : Row w a m xs) (ng : 0 < m → ∀ p, a = some p → p.block ≠ b ∧ p.block ≠ gs ∧ p.block ≠ gm) :
    Calls Try.prog 16 #[.pointer (some ⟨b, 0, none⟩), .int .i64 i, .slice a m cx] w fun e w' => WPost2 b gs gm n c L S fu go fz i m xs w e w' := by
  have HN := Lib.hid h.2.2.2.2.1
  have HD := Lib.hid h
  have HR := Lib.hid hr
  have HX : m = 64 → Hid (SOk xs) := fun e => Lib.hid ⟨hr.1.trans e, hr.2.2.1⟩
  have NG := Lib.hid ng
  clear h hr ng
  go_enter Try.func16, Try.ntmps16
  go_upto_region 1 with (fail)
  refine wp_region_lit ?_
  by_cases hin : 0 ≤ i ∧ i < (n : Int)
  · have HIN := Lib.hid hin
    clear hin
    refine zP (.pointer (some ⟨b, 0, none⟩)) ?_
    refine zP (.int .i64 i) ?_
    refine wpL_call 38 #[.pointer (some ⟨b, 0, none⟩), .int .i64 i] rfl (by kernel_rfl) ((hasD HD.out i).mono ?_)
    rintro e w9 ⟨he, hx⟩
    subst hx
    refine ⟨.bool true, by rw [he, decide_eq_true HIN.out], ?_⟩
    simp only [Act.put, List.setIfInBounds_toArray, List.set_cons_zero, List.set_cons_succ]
    refine wpL_pure (.bool false) rfl (by kernel_rfl) ?_
    simp only [Act.put, List.setIfInBounds_toArray, List.set_cons_zero, List.set_cons_succ]
    refine wpL_pure (.bool false) rfl (by kernel_rfl) ?_
    simp only [Act.put, List.setIfInBounds_toArray, List.set_cons_zero, List.set_cons_succ]
    refine wpL_pure (.slice a m cx) rfl (by kernel_rfl) ?_
    simp only [Act.put, List.setIfInBounds_toArray, List.set_cons_zero, List.set_cons_succ]
    refine wpL_pure (.int .i64 (m : Int)) rfl (by kernel_rfl) ?_
    simp only [Act.put, List.setIfInBounds_toArray, List.set_cons_zero, List.set_cons_succ]
    by_cases h64 : m = 64
    · subst h64
      replace HX := HX rfl
      refine wpL_pure (.bool false) rfl (run_nei Try.underlying3 rfl rfl rfl (by decide)) ?_
      simp only [Act.put, List.setIfInBounds_toArray, List.set_cons_zero, List.set_cons_succ]
      refine wpL_pure (.bool false) rfl (by kernel_rfl) ?_
      simp only [Act.put, List.setIfInBounds_toArray, List.set_cons_zero, List.set_cons_succ]
      refine wpL_pure (.bool false) rfl (by kernel_rfl) ?_
      simp only [Act.put, List.setIfInBounds_toArray, List.set_cons_zero, List.set_cons_succ]
      unfold wpList
      go_upto_region 3 with (fail)
      refine wp_region_lit ?_
      refine zP (.pointer (some ⟨b, 0, none⟩)) ?_
      refine wpL_call 39 #[.pointer (some ⟨b, 0, none⟩)] rfl (by kernel_rfl) ((mayD HD.out).mono ?_)
      rintro e w1 ⟨rfl, d1, f1⟩
      obtain ⟨k, rfl⟩ : ∃ k : Nat, i = (k : Int) := ⟨i.toNat, by have := HIN.out; omega⟩
      have HK : Hid (k < n) := Lib.hid (by have := HIN.out; omega)
      obtain ⟨s0, hs0, ok0⟩ := HD.out.at HK.out
      have HS := Lib.hid hs0
      have HS2 := Lib.hid ok0
      clear hs0 ok0
      have F1 : Hid (DS w1 b gs gm n L c S fu (mayF fu fz go) (!mayB fu fz go) ∧ Fd b gs gm w w1) := Lib.hid ⟨d1, f1⟩
      clear d1 f1
      obtain ⟨mb, hmb⟩ : ∃ q, mayB fu fz go = q := ⟨_, rfl⟩
      obtain ⟨mf, hmf⟩ : ∃ q, mayF fu fz go = q := ⟨_, rfl⟩
      rw [hmb, hmf] at F1
      refine ⟨.bool mb, by rw [hmb], ?_⟩
      simp only [Act.put, List.setIfInBounds_toArray, List.set_cons_zero, List.set_cons_succ]
      have HMB := Lib.hid hmb
      have HMF := Lib.hid hmf
      clear hmb hmf
      cases mb
      · refine wpL_pure (.bool true) rfl (by kernel_rfl) ?_
        simp only [Act.put, List.setIfInBounds_toArray, List.set_cons_zero, List.set_cons_succ]
        refine wpL_pure (.bool true) rfl (by kernel_rfl) ?_
        simp only [Act.put, List.setIfInBounds_toArray, List.set_cons_zero, List.set_cons_succ]
        unfold wpList
        go_upto_region 4 with (fail)
        refine wp_region_lit ?_
        refine wpL_pure (.int .i64 5) rfl (by kernel_rfl) ?_
        simp only [Act.put, List.setIfInBounds_toArray, List.set_cons_zero, List.set_cons_succ]
        go_wp2_with fail
        go_ret
        exact .inr (.inl ⟨HIN.out, rfl, HMB.out, rfl, by rw [HMF.out]; exact F1.out.1, F1.out.2⟩)
      · refine wpL_pure (.bool false) rfl (by kernel_rfl) ?_
        simp only [Act.put, List.setIfInBounds_toArray, List.set_cons_zero, List.set_cons_succ]
        refine wpL_pure (.bool false) rfl (by kernel_rfl) ?_
        simp only [Act.put, List.setIfInBounds_toArray, List.set_cons_zero, List.set_cons_succ]
        unfold wpList
        have R1 : Hid (Row w1 a 64 xs) := Lib.hid (F1.out.2.row HR.out (NG.out (by decide)))
        rcases has_key L (k : Int) with hk | ⟨sk, br, hk⟩
        · go_upto_region 5 with (fail)
          refine wp_region_lit ?_
          refine wpL_pure (.pointer (some ⟨b, 0, none⟩)) rfl (by kernel_rfl) ?_
          simp only [Act.put, List.setIfInBounds_toArray, List.set_cons_zero, List.set_cons_succ]
          refine wpL_pure (.pointer (some ⟨b, 0, none⟩)) rfl (by kernel_rfl) ?_
          simp only [Act.put, List.setIfInBounds_toArray, List.set_cons_zero, List.set_cons_succ]
          refine wpL_pure (.pointer (some ⟨b, 1, none⟩)) rfl (by kernel_rfl) ?_
          simp only [Act.put, List.setIfInBounds_toArray, List.set_cons_zero, List.set_cons_succ]
          refine wpL_pure (.map (some gm)) rfl (run_load_one _ _ _ 60 _ _ rfl (b) (1) rfl (by rw [F1.out.1.cells.2.1]) (by kernel_rfl)) ?_
          simp only [Act.put, List.setIfInBounds_toArray, List.set_cons_zero, List.set_cons_succ]
          refine wpL_pure (.int .i64 (k : Int)) rfl (by kernel_rfl) ?_
          simp only [Act.put, List.setIfInBounds_toArray, List.set_cons_zero, List.set_cons_succ]
          have HKY := Lib.hid hk
          clear hk
          refine zQ (.tuple #[.agg #[.int .u8 0, .int .u8 0, .int .u8 0, .int .u8 0, .int .u8 0, .int .u8 0, .int .u8 0, .int .u8 0, .int .u8 0, .int .u8 0, .int .u8 0, .int .u8 0, .int .u8 0, .int .u8 0, .int .u8 0, .int .u8 0, .int .u8 0, .int .u8 0, .int .u8 0, .int .u8 0, .int .u8 0, .int .u8 0, .int .u8 0, .int .u8 0, .int .u8 0, .int .u8 0, .int .u8 0, .int .u8 0, .int .u8 0, .int .u8 0, .int .u8 0, .int .u8 0, .int .u8 0, .int .u8 0, .int .u8 0, .int .u8 0, .int .u8 0, .int .u8 0, .int .u8 0, .int .u8 0, .int .u8 0, .int .u8 0, .int .u8 0, .int .u8 0, .int .u8 0, .int .u8 0, .int .u8 0, .int .u8 0, .int .u8 0, .int .u8 0, .int .u8 0, .int .u8 0, .int .u8 0, .int .u8 0, .int .u8 0, .int .u8 0, .int .u8 0, .int .u8 0, .int .u8 0, .int .u8 0, .int .u8 0, .int .u8 0, .int .u8 0, .int .u8 0], .bool false]) (run_look0 _ _ _ _ _ gm c _ L rfl rfl rfl F1.out.1.2.2.1 HKY.out) ?_
          refine zP (.tuple #[.agg #[.int .u8 0, .int .u8 0, .int .u8 0, .int .u8 0, .int .u8 0, .int .u8 0, .int .u8 0, .int .u8 0, .int .u8 0, .int .u8 0, .int .u8 0, .int .u8 0, .int .u8 0, .int .u8 0, .int .u8 0, .int .u8 0, .int .u8 0, .int .u8 0, .int .u8 0, .int .u8 0, .int .u8 0, .int .u8 0, .int .u8 0, .int .u8 0, .int .u8 0, .int .u8 0, .int .u8 0, .int .u8 0, .int .u8 0, .int .u8 0, .int .u8 0, .int .u8 0, .int .u8 0, .int .u8 0, .int .u8 0, .int .u8 0, .int .u8 0, .int .u8 0, .int .u8 0, .int .u8 0, .int .u8 0, .int .u8 0, .int .u8 0, .int .u8 0, .int .u8 0, .int .u8 0, .int .u8 0, .int .u8 0, .int .u8 0, .int .u8 0, .int .u8 0, .int .u8 0, .int .u8 0, .int .u8 0, .int .u8 0, .int .u8 0, .int .u8 0, .int .u8 0, .int .u8 0, .int .u8 0, .int .u8 0, .int .u8 0, .int .u8 0, .int .u8 0], .bool false]) ?_
          refine zP (.agg #[.int .u8 0, .int .u8 0, .int .u8 0, .int .u8 0, .int .u8 0, .int .u8 0, .int .u8 0, .int .u8 0, .int .u8 0, .int .u8 0, .int .u8 0, .int .u8 0, .int .u8 0, .int .u8 0, .int .u8 0, .int .u8 0, .int .u8 0, .int .u8 0, .int .u8 0, .int .u8 0, .int .u8 0, .int .u8 0, .int .u8 0, .int .u8 0, .int .u8 0, .int .u8 0, .int .u8 0, .int .u8 0, .int .u8 0, .int .u8 0, .int .u8 0, .int .u8 0, .int .u8 0, .int .u8 0, .int .u8 0, .int .u8 0, .int .u8 0, .int .u8 0, .int .u8 0, .int .u8 0, .int .u8 0, .int .u8 0, .int .u8 0, .int .u8 0, .int .u8 0, .int .u8 0, .int .u8 0, .int .u8 0, .int .u8 0, .int .u8 0, .int .u8 0, .int .u8 0, .int .u8 0, .int .u8 0, .int .u8 0, .int .u8 0, .int .u8 0, .int .u8 0, .int .u8 0, .int .u8 0, .int .u8 0, .int .u8 0, .int .u8 0, .int .u8 0]) ?_
          refine zP (.bool false) ?_
          refine zV (.pointer (some ⟨w1.heap.size, 0, none⟩)) (w1.alloc (.cells #[.int .u8 0, .int .u8 0, .int .u8 0, .int .u8 0, .int .u8 0, .int .u8 0, .int .u8 0, .int .u8 0, .int .u8 0, .int .u8 0, .int .u8 0, .int .u8 0, .int .u8 0, .int .u8 0, .int .u8 0, .int .u8 0, .int .u8 0, .int .u8 0, .int .u8 0, .int .u8 0, .int .u8 0, .int .u8 0, .int .u8 0, .int .u8 0, .int .u8 0, .int .u8 0, .int .u8 0, .int .u8 0, .int .u8 0, .int .u8 0, .int .u8 0, .int .u8 0, .int .u8 0, .int .u8 0, .int .u8 0, .int .u8 0, .int .u8 0, .int .u8 0, .int .u8 0, .int .u8 0, .int .u8 0, .int .u8 0, .int .u8 0, .int .u8 0, .int .u8 0, .int .u8 0, .int .u8 0, .int .u8 0, .int .u8 0, .int .u8 0, .int .u8 0, .int .u8 0, .int .u8 0, .int .u8 0, .int .u8 0, .int .u8 0, .int .u8 0, .int .u8 0, .int .u8 0, .int .u8 0, .int .u8 0, .int .u8 0, .int .u8 0, .int .u8 0] 77)) (by kernel_rfl) ?_
          refine wpList_store_row rfl 77 _ _ rfl (w1.heap.size) (#[.int .u8 0, .int .u8 0, .int .u8 0, .int .u8 0, .int .u8 0, .int .u8 0, .int .u8 0, .int .u8 0, .int .u8 0, .int .u8 0, .int .u8 0, .int .u8 0, .int .u8 0, .int .u8 0, .int .u8 0, .int .u8 0, .int .u8 0, .int .u8 0, .int .u8 0, .int .u8 0, .int .u8 0, .int .u8 0, .int .u8 0, .int .u8 0, .int .u8 0, .int .u8 0, .int .u8 0, .int .u8 0, .int .u8 0, .int .u8 0, .int .u8 0, .int .u8 0, .int .u8 0, .int .u8 0, .int .u8 0, .int .u8 0, .int .u8 0, .int .u8 0, .int .u8 0, .int .u8 0, .int .u8 0, .int .u8 0, .int .u8 0, .int .u8 0, .int .u8 0, .int .u8 0, .int .u8 0, .int .u8 0, .int .u8 0, .int .u8 0, .int .u8 0, .int .u8 0, .int .u8 0, .int .u8 0, .int .u8 0, .int .u8 0, .int .u8 0, .int .u8 0, .int .u8 0, .int .u8 0, .int .u8 0, .int .u8 0, .int .u8 0, .int .u8 0]) rfl rfl _ _ (Blk.new w1 77 _) (by kernel_rfl) rfl (by kernel_rfl) ?_
          simp only [Act.put, List.setIfInBounds_toArray, List.set_cons_zero, List.set_cons_succ]
          obtain ⟨w2, hw2⟩ : ∃ V, V = (w1.alloc (.cells #[.int .u8 0, .int .u8 0, .int .u8 0, .int .u8 0, .int .u8 0, .int .u8 0, .int .u8 0, .int .u8 0, .int .u8 0, .int .u8 0, .int .u8 0, .int .u8 0, .int .u8 0, .int .u8 0, .int .u8 0, .int .u8 0, .int .u8 0, .int .u8 0, .int .u8 0, .int .u8 0, .int .u8 0, .int .u8 0, .int .u8 0, .int .u8 0, .int .u8 0, .int .u8 0, .int .u8 0, .int .u8 0, .int .u8 0, .int .u8 0, .int .u8 0, .int .u8 0, .int .u8 0, .int .u8 0, .int .u8 0, .int .u8 0, .int .u8 0, .int .u8 0, .int .u8 0, .int .u8 0, .int .u8 0, .int .u8 0, .int .u8 0, .int .u8 0, .int .u8 0, .int .u8 0, .int .u8 0, .int .u8 0, .int .u8 0, .int .u8 0, .int .u8 0, .int .u8 0, .int .u8 0, .int .u8 0, .int .u8 0, .int .u8 0, .int .u8 0, .int .u8 0, .int .u8 0, .int .u8 0, .int .u8 0, .int .u8 0, .int .u8 0, .int .u8 0] 77)).setRow w1.heap.size #[.int .u8 0, .int .u8 0, .int .u8 0, .int .u8 0, .int .u8 0, .int .u8 0, .int .u8 0, .int .u8 0, .int .u8 0, .int .u8 0, .int .u8 0, .int .u8 0, .int .u8 0, .int .u8 0, .int .u8 0, .int .u8 0, .int .u8 0, .int .u8 0, .int .u8 0, .int .u8 0, .int .u8 0, .int .u8 0, .int .u8 0, .int .u8 0, .int .u8 0, .int .u8 0, .int .u8 0, .int .u8 0, .int .u8 0, .int .u8 0, .int .u8 0, .int .u8 0, .int .u8 0, .int .u8 0, .int .u8 0, .int .u8 0, .int .u8 0, .int .u8 0, .int .u8 0, .int .u8 0, .int .u8 0, .int .u8 0, .int .u8 0, .int .u8 0, .int .u8 0, .int .u8 0, .int .u8 0, .int .u8 0, .int .u8 0, .int .u8 0, .int .u8 0, .int .u8 0, .int .u8 0, .int .u8 0, .int .u8 0, .int .u8 0, .int .u8 0, .int .u8 0, .int .u8 0, .int .u8 0, .int .u8 0, .int .u8 0, .int .u8 0, .int .u8 0] := ⟨_, rfl⟩
          rw [← hw2]
          have B2 : Below w1.heap.size w1 w2 := by rw [hw2]; exact below_setRow ((Below.refl _ _).alloc (Nat.le_refl _) _) (Nat.le_refl _) _
          have F2 : Hid (DS w2 b gs gm n L c S fu mf false ∧ Fd b gs gm w w2 ∧ Row w2 a 64 xs) := Lib.hid ⟨F1.out.1.below B2, F1.out.2.trans (Fd.of B2), R1.out.keep B2⟩
          clear hw2 B2 R1 F1
          generalize w1.heap.size = g7
          refine zP (.bool false) ?_
          unfold wpList
          go_upto_region 6 with (fail)
          refine wp_region_lit ?_
          refine wpL_pure (.bool false) rfl (by kernel_rfl) ?_
          simp only [Act.put, List.setIfInBounds_toArray, List.set_cons_zero, List.set_cons_succ]
          refine wpL_pure (.bool true) rfl (by kernel_rfl) ?_
          simp only [Act.put, List.setIfInBounds_toArray, List.set_cons_zero, List.set_cons_succ]
          go_upto_region 7 with (fail)
          refine region_held (fun X => DS X b gs gm n L c S fu mf false ∧ Fd b gs gm w X ∧ Row X a 64 xs) 12 (by kernel_rfl) (by kernel_rfl) (by exact ⟨F2.out.1.drewD, F2.out.2.1.drewF, F2.out.2.2.drewR⟩) ?_
          simp only [List.take_succ_cons, List.take_zero, List.drop_succ_cons, List.drop_zero]
          refine wpHeld_cons (.pointer (some ⟨b, 0, none⟩)) rfl (fun w h => heldRun_value (by kernel_rfl) h) ?_
          simp only [Act.put, List.setIfInBounds_toArray, List.set_cons_zero, List.set_cons_succ]
          refine wpHeld_cons (.pointer (some ⟨b, 0, none⟩)) rfl (fun w h => heldRun_value (by kernel_rfl) h) ?_
          simp only [Act.put, List.setIfInBounds_toArray, List.set_cons_zero, List.set_cons_succ]
          refine wpHeld_cons (.pointer (some ⟨b, 1, none⟩)) rfl (fun w h => heldRun_value (by kernel_rfl) h) ?_
          simp only [Act.put, List.setIfInBounds_toArray, List.set_cons_zero, List.set_cons_succ]
          refine wpHeld_cons (.map (some gm)) rfl (fun w h => heldRun_value (run_load_one _ _ _ 60 _ _ rfl (b) (1) rfl (by rw [h.1.cells.2.1]) (by kernel_rfl)) h) ?_
          simp only [Act.put, List.setIfInBounds_toArray, List.set_cons_zero, List.set_cons_succ]
          refine wpHeld_cons (.int .i64 (k : Int)) rfl (fun w h => heldRun_value (by kernel_rfl) h) ?_
          simp only [Act.put, List.setIfInBounds_toArray, List.set_cons_zero, List.set_cons_succ]
          refine wpHeld_cons (.pointer (some ⟨b, 0, none⟩)) rfl (fun w h => heldRun_value (by kernel_rfl) h) ?_
          simp only [Act.put, List.setIfInBounds_toArray, List.set_cons_zero, List.set_cons_succ]
          refine wpHeld_cons (.pointer (some ⟨b, 0, none⟩)) rfl (fun w h => heldRun_value (by kernel_rfl) h) ?_
          simp only [Act.put, List.setIfInBounds_toArray, List.set_cons_zero, List.set_cons_succ]
          refine wpHeld_cons (.pointer (some ⟨b, 0, none⟩)) rfl (fun w h => heldRun_value (by kernel_rfl) h) ?_
          simp only [Act.put, List.setIfInBounds_toArray, List.set_cons_zero, List.set_cons_succ]
          refine wpHeld_cons (.slice (some ⟨gs, 0, none⟩) n n) rfl (fun w h => heldRun_value (run_load_one _ _ _ 59 _ _ rfl (b) (0) rfl (by rw [h.1.cells.1]) (by kernel_rfl)) h) ?_
          simp only [Act.put, List.setIfInBounds_toArray, List.set_cons_zero, List.set_cons_succ]
          refine wpHeld_cons (.int .i64 (k : Int)) rfl (fun w h => heldRun_value (by kernel_rfl) h) ?_
          simp only [Act.put, List.setIfInBounds_toArray, List.set_cons_zero, List.set_cons_succ]
          refine wpHeld_cons (.pointer (some ⟨gs, k * 64, none⟩)) rfl (fun w h => heldRun_value (run_idxs _ _ _ _ _ gs n n k rfl rfl rfl HK.out HN.out) h) ?_
          simp only [Act.put, List.setIfInBounds_toArray, List.set_cons_zero, List.set_cons_succ]
          refine wpHeld_cons (.agg (s0.map (Value.int .u8)).toArray) rfl (fun w h => heldRun_value (run_load_mid _ _ _ 77 _ rfl gs (k * 64) rfl (s0.map (Value.int .u8)) _ (h.1.range HS.out) Try.underlying77 rfl (sz53 HS2.out.1)) h) ?_
          simp only [Act.put, List.setIfInBounds_toArray, List.set_cons_zero, List.set_cons_succ]
          refine wpHeld_nil ?_
          intro X h
          have RM := Lib.hid h.1.2.2.1
          obtain ⟨X1, hX1⟩ : ∃ V, V = setMap X gm (.map (ents (L ++ [((k : Int), s0, c)])) (c + 1)) := ⟨_, rfl⟩
          have F3 : Hid (DS X1 b gs gm n (L ++ [((k : Int), s0, c)]) (c + 1) S fu mf false ∧ Fd b gs gm w X1 ∧ Row X1 a 64 xs) := Lib.hid (by rw [hX1]; exact ⟨h.1.upd _ _ (h.1.2.2.2.2.2.2.2.1.push k HK.out s0 HS2.out HKY.out), h.2.1.upd _, h.2.2.grown (setMap_gb _ _ _) (fun p hp => by simpa using (NG.out (by decide) p hp).2.2)⟩)
          clear h F2
          refine wpL_eff X1 rfl (by rw [hX1]; exact run_updG _ _ _ _ _ _ gm c _ s0 L rfl rfl rfl rfl RM.out HKY.out) ?_
          simp only [Act.put, List.setIfInBounds_toArray, List.set_cons_zero, List.set_cons_succ]
          clear hX1 RM
          unfold wpList
          obtain ⟨gx, ox, ea⟩ := row_addr HR.out (by decide)
          subst ea
          go_upto_region 8 with (fail)
          refine region_held (fun X => DS X b gs gm n (L ++ [((k : Int), s0, c)]) (c + 1) S fu mf false ∧ Fd b gs gm w X ∧ Row X (some ⟨gx, ox, none⟩) 64 xs) 9 (by kernel_rfl) (by kernel_rfl) (by exact ⟨F3.out.1.drewD, F3.out.2.1.drewF, F3.out.2.2.drewR⟩) ?_
          simp only [List.take_succ_cons, List.take_zero, List.drop_succ_cons, List.drop_zero]
          refine wpHeld_cons (.pointer (some ⟨b, 0, none⟩)) rfl (fun w h => heldRun_value (by kernel_rfl) h) ?_
          simp only [Act.put, List.setIfInBounds_toArray, List.set_cons_zero, List.set_cons_succ]
          refine wpHeld_cons (.pointer (some ⟨b, 0, none⟩)) rfl (fun w h => heldRun_value (by kernel_rfl) h) ?_
          simp only [Act.put, List.setIfInBounds_toArray, List.set_cons_zero, List.set_cons_succ]
          refine wpHeld_cons (.pointer (some ⟨b, 0, none⟩)) rfl (fun w h => heldRun_value (by kernel_rfl) h) ?_
          simp only [Act.put, List.setIfInBounds_toArray, List.set_cons_zero, List.set_cons_succ]
          refine wpHeld_cons (.slice (some ⟨gs, 0, none⟩) n n) rfl (fun w h => heldRun_value (run_load_one _ _ _ 59 _ _ rfl (b) (0) rfl (by rw [h.1.cells.1]) (by kernel_rfl)) h) ?_
          simp only [Act.put, List.setIfInBounds_toArray, List.set_cons_zero, List.set_cons_succ]
          refine wpHeld_cons (.int .i64 (k : Int)) rfl (fun w h => heldRun_value (by kernel_rfl) h) ?_
          simp only [Act.put, List.setIfInBounds_toArray, List.set_cons_zero, List.set_cons_succ]
          refine wpHeld_cons (.slice (some ⟨gx, ox, none⟩) 64 cx) rfl (fun w h => heldRun_value (by kernel_rfl) h) ?_
          simp only [Act.put, List.setIfInBounds_toArray, List.set_cons_zero, List.set_cons_succ]
          refine wpHeld_cons (.pointer (some ⟨gx, ox, none⟩)) rfl (fun w h => heldRun_value (run_s2a _ _ _ _ gx ox 64 cx rfl rfl (Nat.le_refl _)) h) ?_
          simp only [Act.put, List.setIfInBounds_toArray, List.set_cons_zero, List.set_cons_succ]
          refine wpHeld_cons (.agg (xs.map (Value.int .u8)).toArray) rfl (fun w h => heldRun_value (run_load_mid _ _ _ 77 _ rfl gx ox rfl (xs.map (Value.int .u8)) _ (row_range h.2.2) Try.underlying77 rfl (sz53 HX.out.1)) h) ?_
          simp only [Act.put, List.setIfInBounds_toArray, List.set_cons_zero, List.set_cons_succ]
          refine wpHeld_cons (.pointer (some ⟨gs, k * 64, none⟩)) rfl (fun w h => heldRun_value (run_idxs _ _ _ _ _ gs n n k rfl rfl rfl HK.out HN.out) h) ?_
          simp only [Act.put, List.setIfInBounds_toArray, List.set_cons_zero, List.set_cons_succ]
          refine wpHeld_nil ?_
          intro Y h
          have TH := Lib.hid (h.1.there HK.out)
          obtain ⟨Y1, hY1⟩ : ∃ V, V = Y.setCells gs (k * 64) (xs.map (Value.int .u8)) := ⟨_, rfl⟩
          have F4 : Hid (DS Y1 b gs gm n (L ++ [((k : Int), s0, c)]) (c + 1) (S.set k xs) fu mf false ∧ Fd b gs gm w Y1) := Lib.hid (by rw [hY1]; exact ⟨h.1.put k HK.out HX.out, h.2.1.cells _ _⟩)
          clear h F3
          refine wpList_store_mid rfl 77 _ _ rfl gs (k * 64) (xs.map (Value.int .u8)).toArray rfl rfl (by rw [show (xs.map (Value.int .u8)).toArray.size = 64 by simp [HX.out.1]]; exact TH.out) (sz53' HX.out.1) (all8 _) ?_
          simp only [Act.put, List.setIfInBounds_toArray, List.set_cons_zero, List.set_cons_succ]
          try simp only [List.toList_toArray]
          rw [← hY1]
          clear hY1
          go_wp2_with fail
          go_ret
          have hw : wrL L c (k : Int) s0 = (L ++ [((k : Int), s0, c)], c + 1) := by unfold wrL; rw [if_neg (fun ⟨e, he, q⟩ => HKY.out e he q)]
          exact .inr (.inr ⟨HIN.out, rfl, HMB.out, rfl, k, s0, rfl, HS.out, by rw [hw, HMF.out]; exact F4.out.1, F4.out.2⟩)
        · go_upto_region 5 with (fail)
          refine wp_region_lit ?_
          refine wpL_pure (.pointer (some ⟨b, 0, none⟩)) rfl (by kernel_rfl) ?_
          simp only [Act.put, List.setIfInBounds_toArray, List.set_cons_zero, List.set_cons_succ]
          refine wpL_pure (.pointer (some ⟨b, 0, none⟩)) rfl (by kernel_rfl) ?_
          simp only [Act.put, List.setIfInBounds_toArray, List.set_cons_zero, List.set_cons_succ]
          refine wpL_pure (.pointer (some ⟨b, 1, none⟩)) rfl (by kernel_rfl) ?_
          simp only [Act.put, List.setIfInBounds_toArray, List.set_cons_zero, List.set_cons_succ]
          refine wpL_pure (.map (some gm)) rfl (run_load_one _ _ _ 60 _ _ rfl (b) (1) rfl (by rw [F1.out.1.cells.2.1]) (by kernel_rfl)) ?_
          simp only [Act.put, List.setIfInBounds_toArray, List.set_cons_zero, List.set_cons_succ]
          refine wpL_pure (.int .i64 (k : Int)) rfl (by kernel_rfl) ?_
          simp only [Act.put, List.setIfInBounds_toArray, List.set_cons_zero, List.set_cons_succ]
          have HKY := Lib.hid hk
          clear hk
          obtain ⟨ov, hov⟩ : ∃ q, (sk.map (Value.int .u8)).toArray = q := ⟨_, rfl⟩
          have HOV := Lib.hid hov
          have hos : ov.size = 64 := by rw [← hov, List.size_toArray, List.length_map]; exact (F1.out.1.2.2.2.2.2.2.2.1.1 _ HKY.out).2.2.1.1
          have HOS := Lib.hid hos
          clear hov hos
          refine zQ (.tuple #[.agg ov, .bool true]) ((run_look1 _ _ _ _ _ gm c _ sk br true L rfl rfl rfl F1.out.1.2.2.1 F1.out.1.2.2.2.2.2.2.2.1.2.1 HKY.out).trans (by rw [HOV.out]; rfl)) ?_
          refine zP (.tuple #[.agg ov, .bool true]) ?_
          refine zP (.agg ov) ?_
          refine zP (.bool true) ?_
          refine zV (.pointer (some ⟨w1.heap.size, 0, none⟩)) (w1.alloc (.cells #[.int .u8 0, .int .u8 0, .int .u8 0, .int .u8 0, .int .u8 0, .int .u8 0, .int .u8 0, .int .u8 0, .int .u8 0, .int .u8 0, .int .u8 0, .int .u8 0, .int .u8 0, .int .u8 0, .int .u8 0, .int .u8 0, .int .u8 0, .int .u8 0, .int .u8 0, .int .u8 0, .int .u8 0, .int .u8 0, .int .u8 0, .int .u8 0, .int .u8 0, .int .u8 0, .int .u8 0, .int .u8 0, .int .u8 0, .int .u8 0, .int .u8 0, .int .u8 0, .int .u8 0, .int .u8 0, .int .u8 0, .int .u8 0, .int .u8 0, .int .u8 0, .int .u8 0, .int .u8 0, .int .u8 0, .int .u8 0, .int .u8 0, .int .u8 0, .int .u8 0, .int .u8 0, .int .u8 0, .int .u8 0, .int .u8 0, .int .u8 0, .int .u8 0, .int .u8 0, .int .u8 0, .int .u8 0, .int .u8 0, .int .u8 0, .int .u8 0, .int .u8 0, .int .u8 0, .int .u8 0, .int .u8 0, .int .u8 0, .int .u8 0, .int .u8 0] 77)) (by kernel_rfl) ?_
          refine wpList_store_row rfl 77 _ _ rfl (w1.heap.size) (ov) rfl rfl _ _ (Blk.new w1 77 _) (by rw [HOS.out]; kernel_rfl) (by rw [HOS.out]; rfl) (by rw [← HOV.out]; exact all8 _) ?_
          simp only [Act.put, List.setIfInBounds_toArray, List.set_cons_zero, List.set_cons_succ]
          obtain ⟨w2, hw2⟩ : ∃ V, V = (w1.alloc (.cells #[.int .u8 0, .int .u8 0, .int .u8 0, .int .u8 0, .int .u8 0, .int .u8 0, .int .u8 0, .int .u8 0, .int .u8 0, .int .u8 0, .int .u8 0, .int .u8 0, .int .u8 0, .int .u8 0, .int .u8 0, .int .u8 0, .int .u8 0, .int .u8 0, .int .u8 0, .int .u8 0, .int .u8 0, .int .u8 0, .int .u8 0, .int .u8 0, .int .u8 0, .int .u8 0, .int .u8 0, .int .u8 0, .int .u8 0, .int .u8 0, .int .u8 0, .int .u8 0, .int .u8 0, .int .u8 0, .int .u8 0, .int .u8 0, .int .u8 0, .int .u8 0, .int .u8 0, .int .u8 0, .int .u8 0, .int .u8 0, .int .u8 0, .int .u8 0, .int .u8 0, .int .u8 0, .int .u8 0, .int .u8 0, .int .u8 0, .int .u8 0, .int .u8 0, .int .u8 0, .int .u8 0, .int .u8 0, .int .u8 0, .int .u8 0, .int .u8 0, .int .u8 0, .int .u8 0, .int .u8 0, .int .u8 0, .int .u8 0, .int .u8 0, .int .u8 0] 77)).setRow w1.heap.size ov := ⟨_, rfl⟩
          rw [← hw2]
          have B2 : Below w1.heap.size w1 w2 := by rw [hw2]; exact below_setRow ((Below.refl _ _).alloc (Nat.le_refl _) _) (Nat.le_refl _) _
          have F2 : Hid (DS w2 b gs gm n L c S fu mf false ∧ Fd b gs gm w w2 ∧ Row w2 a 64 xs) := Lib.hid ⟨F1.out.1.below B2, F1.out.2.trans (Fd.of B2), R1.out.keep B2⟩
          clear hw2 B2 R1 F1
          generalize w1.heap.size = g7
          refine zP (.bool true) ?_
          unfold wpList
          go_upto_region 6 with (fail)
          refine wp_region_lit ?_
          refine wpL_pure (.bool true) rfl (by kernel_rfl) ?_
          simp only [Act.put, List.setIfInBounds_toArray, List.set_cons_zero, List.set_cons_succ]
          refine wpL_pure (.bool false) rfl (by kernel_rfl) ?_
          simp only [Act.put, List.setIfInBounds_toArray, List.set_cons_zero, List.set_cons_succ]
          obtain ⟨gx, ox, ea⟩ := row_addr HR.out (by decide)
          subst ea
          go_upto_region 8 with (fail)
          refine region_held (fun X => DS X b gs gm n L c S fu mf false ∧ Fd b gs gm w X ∧ Row X (some ⟨gx, ox, none⟩) 64 xs) 9 (by kernel_rfl) (by kernel_rfl) (by exact ⟨F2.out.1.drewD, F2.out.2.1.drewF, F2.out.2.2.drewR⟩) ?_
          simp only [List.take_succ_cons, List.take_zero, List.drop_succ_cons, List.drop_zero]
          refine wpHeld_cons (.pointer (some ⟨b, 0, none⟩)) rfl (fun w h => heldRun_value (by kernel_rfl) h) ?_
          simp only [Act.put, List.setIfInBounds_toArray, List.set_cons_zero, List.set_cons_succ]
          refine wpHeld_cons (.pointer (some ⟨b, 0, none⟩)) rfl (fun w h => heldRun_value (by kernel_rfl) h) ?_
          simp only [Act.put, List.setIfInBounds_toArray, List.set_cons_zero, List.set_cons_succ]
          refine wpHeld_cons (.pointer (some ⟨b, 0, none⟩)) rfl (fun w h => heldRun_value (by kernel_rfl) h) ?_
          simp only [Act.put, List.setIfInBounds_toArray, List.set_cons_zero, List.set_cons_succ]
          refine wpHeld_cons (.slice (some ⟨gs, 0, none⟩) n n) rfl (fun w h => heldRun_value (run_load_one _ _ _ 59 _ _ rfl (b) (0) rfl (by rw [h.1.cells.1]) (by kernel_rfl)) h) ?_
          simp only [Act.put, List.setIfInBounds_toArray, List.set_cons_zero, List.set_cons_succ]
          refine wpHeld_cons (.int .i64 (k : Int)) rfl (fun w h => heldRun_value (by kernel_rfl) h) ?_
          simp only [Act.put, List.setIfInBounds_toArray, List.set_cons_zero, List.set_cons_succ]
          refine wpHeld_cons (.slice (some ⟨gx, ox, none⟩) 64 cx) rfl (fun w h => heldRun_value (by kernel_rfl) h) ?_
          simp only [Act.put, List.setIfInBounds_toArray, List.set_cons_zero, List.set_cons_succ]
          refine wpHeld_cons (.pointer (some ⟨gx, ox, none⟩)) rfl (fun w h => heldRun_value (run_s2a _ _ _ _ gx ox 64 cx rfl rfl (Nat.le_refl _)) h) ?_
          simp only [Act.put, List.setIfInBounds_toArray, List.set_cons_zero, List.set_cons_succ]
          refine wpHeld_cons (.agg (xs.map (Value.int .u8)).toArray) rfl (fun w h => heldRun_value (run_load_mid _ _ _ 77 _ rfl gx ox rfl (xs.map (Value.int .u8)) _ (row_range h.2.2) Try.underlying77 rfl (sz53 HX.out.1)) h) ?_
          simp only [Act.put, List.setIfInBounds_toArray, List.set_cons_zero, List.set_cons_succ]
          refine wpHeld_cons (.pointer (some ⟨gs, k * 64, none⟩)) rfl (fun w h => heldRun_value (run_idxs _ _ _ _ _ gs n n k rfl rfl rfl HK.out HN.out) h) ?_
          simp only [Act.put, List.setIfInBounds_toArray, List.set_cons_zero, List.set_cons_succ]
          refine wpHeld_nil ?_
          intro Y h
          have TH := Lib.hid (h.1.there HK.out)
          obtain ⟨Y1, hY1⟩ : ∃ V, V = Y.setCells gs (k * 64) (xs.map (Value.int .u8)) := ⟨_, rfl⟩
          have F4 : Hid (DS Y1 b gs gm n L c (S.set k xs) fu mf false ∧ Fd b gs gm w Y1) := Lib.hid (by rw [hY1]; exact ⟨h.1.put k HK.out HX.out, h.2.1.cells _ _⟩)
          clear h F2
          refine wpList_store_mid rfl 77 _ _ rfl gs (k * 64) (xs.map (Value.int .u8)).toArray rfl rfl (by rw [show (xs.map (Value.int .u8)).toArray.size = 64 by simp [HX.out.1]]; exact TH.out) (sz53' HX.out.1) (all8 _) ?_
          simp only [Act.put, List.setIfInBounds_toArray, List.set_cons_zero, List.set_cons_succ]
          try simp only [List.toList_toArray]
          rw [← hY1]
          clear hY1
          go_wp2_with fail
          go_ret
          have hw : wrL L c (k : Int) s0 = (L, c) := by unfold wrL; rw [if_pos ⟨_, HKY.out, rfl⟩]
          exact .inr (.inr ⟨HIN.out, rfl, HMB.out, rfl, k, s0, rfl, HS.out, by rw [hw, HMF.out]; exact F4.out.1, F4.out.2⟩)
    · have H64 := Lib.hid h64
      clear h64
      refine wpL_pure (.bool true) rfl (run_nei Try.underlying3 rfl rfl rfl (by have := H64.out; simp; omega)) ?_
      simp only [Act.put, List.setIfInBounds_toArray, List.set_cons_zero, List.set_cons_succ]
      refine wpL_pure (.bool true) rfl (by kernel_rfl) ?_
      simp only [Act.put, List.setIfInBounds_toArray, List.set_cons_zero, List.set_cons_succ]
      refine wpL_pure (.bool true) rfl (by kernel_rfl) ?_
      simp only [Act.put, List.setIfInBounds_toArray, List.set_cons_zero, List.set_cons_succ]
      unfold wpList
      go_upto_region 2 with (fail)
      refine wp_region_lit ?_
      refine wpL_pure (.int .i64 1) rfl (by kernel_rfl) ?_
      simp only [Act.put, List.setIfInBounds_toArray, List.set_cons_zero, List.set_cons_succ]
      go_wp2_with fail
      go_ret
      exact .inl ⟨fun q => H64.out q.2, rfl, HD.out, Fd.refl _⟩
  · have HIN := Lib.hid hin
    clear hin
    refine zP (.pointer (some ⟨b, 0, none⟩)) ?_
    refine zP (.int .i64 i) ?_
    refine wpL_call 38 #[.pointer (some ⟨b, 0, none⟩), .int .i64 i] rfl (by kernel_rfl) ((hasD HD.out i).mono ?_)
    rintro e w9 ⟨he, hx⟩
    subst hx
    refine ⟨.bool false, by rw [he, decide_eq_false HIN.out], ?_⟩
    simp only [Act.put, List.setIfInBounds_toArray, List.set_cons_zero, List.set_cons_succ]
    refine wpL_pure (.bool true) rfl (by kernel_rfl) ?_
    simp only [Act.put, List.setIfInBounds_toArray, List.set_cons_zero, List.set_cons_succ]
    refine wpL_pure (.bool true) rfl (by kernel_rfl) ?_
    simp only [Act.put, List.setIfInBounds_toArray, List.set_cons_zero, List.set_cons_succ]
    refine wpL_skip (by kernel_rfl) ?_
    simp only [Act.put, List.setIfInBounds_toArray, List.set_cons_zero, List.set_cons_succ]
    refine wpL_skip (by kernel_rfl) ?_
    simp only [Act.put, List.setIfInBounds_toArray, List.set_cons_zero, List.set_cons_succ]
    refine wpL_skip (by kernel_rfl) ?_
    simp only [Act.put, List.setIfInBounds_toArray, List.set_cons_zero, List.set_cons_succ]
    refine wpL_pure (.bool true) rfl (by kernel_rfl) ?_
    simp only [Act.put, List.setIfInBounds_toArray, List.set_cons_zero, List.set_cons_succ]
    refine wpL_pure (.bool true) rfl (by kernel_rfl) ?_
    simp only [Act.put, List.setIfInBounds_toArray, List.set_cons_zero, List.set_cons_succ]
    unfold wpList
    go_upto_region 2 with (fail)
    refine wp_region_lit ?_
    refine wpL_pure (.int .i64 1) rfl (by kernel_rfl) ?_
    simp only [Act.put, List.setIfInBounds_toArray, List.set_cons_zero, List.set_cons_succ]
    go_wp2_with fail
    go_ret
    exact .inl ⟨fun q => HIN.out q.1, rfl, HD.out, Fd.refl _⟩
theorem writeD {w : World} {b gs gm n c : Nat} {L : List (Int × List Int × Nat)} {S : List (List Int)} {fu go : Bool} {fz : Int} (h : DS w b gs gm n L c S fu fz go) (i : Int) (a : Option Addr) (m cx : Nat) (xs : List Int) (hr : Row w a m xs) (ng : ∀ p, a = some p → p.block ≠ b ∧ p.block ≠ gs ∧ p.block ≠ gm) :
    Calls Try.prog 16 #[.pointer (some ⟨b, 0, none⟩), .int .i64 i, .slice a m cx] w fun e w' => WPost b gs gm n c L S fu go fz i m xs w e w' :=
  (writeD2 h i a m cx xs hr (fun _ => ng)).mono fun e w' q => by
    rcases q with q | ⟨h1, _, h2⟩ | ⟨h1, _, h2⟩
    · exact .inl q
    · exact .inr (.inl ⟨h1, h2⟩)
    · exact .inr (.inr ⟨h1, h2⟩)
end Go.Proofs.Yteabblmhcjpboaa.D
