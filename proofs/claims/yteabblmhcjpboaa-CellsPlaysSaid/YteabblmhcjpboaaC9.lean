/- A sector is written, and synced. -/
import Derived.Test.YteabblmhcjpboaaCP
namespace Go.Proofs.Yteabblmhcjpboaa.D
open Go Go.RowKit
set_option maxRecDepth 100000
theorem mayB_no {fu : Bool} {fz : Int} (h : mayB fu fz false = false) : fu = true := by
  cases fu
  · simp [mayB] at h
  · rfl
theorem wrL_nil (c : Nat) (i : Int) (s : List Int) : wrL [] c i s = ([(i, s, c)], c + 1) := by simp [wrL]
/-- all stays but the blocks of p. -/
def Fl (p : Nat → Prop) (w w' : World) : Prop := w'.os = w.os ∧ w'.tape = w.tape ∧ w'.output = w.output ∧ w.heap.size ≤ w'.heap.size ∧ ∀ k, k < w.heap.size → ¬ p k → w'.heap[k]? = w.heap[k]?
section
variable {p : Nat → Prop} {w w' w'' : World}
theorem Fl.of (h : Below w.heap.size w w') : Fl p w w' := ⟨h.os, h.tape, h.output, h.size, fun k hk _ => h.block k hk⟩
theorem Fl.refl (w : World) : Fl p w w := Fl.of (Below.refl _ _)
theorem Fl.trans (h : Fl p w w') (k : Fl p w' w'') : Fl p w w'' := ⟨k.1.trans h.1, k.2.1.trans h.2.1, k.2.2.1.trans h.2.2.1, Nat.le_trans h.2.2.2.1 k.2.2.2.1, fun j hj hp => (k.2.2.2.2 j (Nat.lt_of_lt_of_le hj h.2.2.2.1) hp).trans (h.2.2.2.2 j hj hp)⟩
theorem Fl.mono {q : Nat → Prop} (h : Fl p w w') (hq : ∀ k, p k → q k) : Fl q w w' := ⟨h.1, h.2.1, h.2.2.1, h.2.2.2.1, fun k hk hp => h.2.2.2.2 k hk (fun x => hp (hq k x))⟩
theorem Fl.fd {b gs gm : Nat} (h : Fd b gs gm w w') (h1 : p b) (h2 : p gs) (h3 : p gm) : Fl p w w' := ⟨h.1, h.2.1, h.2.2.1, h.2.2.2.1, fun k hk hp => h.2.2.2.2 k hk (fun e => hp (e ▸ h1)) (fun e => hp (e ▸ h2)) (fun e => hp (e ▸ h3))⟩
theorem Fl.gb {r : Option Nat} (h : w.grownBy w' r) (hr : ∀ k, r = some k → k < w.heap.size → p k) : Fl p w w' := ⟨h.os, h.tape, h.output, h.size, fun k hk hp => h.block k hk (fun e => hp (hr k e.symm hk))⟩
theorem Fl.below {a : World} (h : Fl p w w') (hb : Below a.heap.size a w) (hp : ∀ k, p k → a.heap.size ≤ k) : Below a.heap.size a w' := ⟨h.1.trans hb.os, h.2.1.trans hb.tape, h.2.2.1.trans hb.output, Nat.le_trans hb.size h.2.2.2.1, fun k hk => (h.2.2.2.2 k (Nat.lt_of_lt_of_le hk hb.size) (fun x => by have := hp k x; omega)).trans (hb.block k hk)⟩
theorem Fl.blk {g t : Nat} {cs : Array Value} (h : Fl p w w') (hB : Blk w g t cs) (hp : ¬ p g) : Blk w' g t cs := (h.2.2.2.2 g hB.lt hp).trans hB
theorem Fl.row {a : Option Addr} {n : Nat} {xs : List Int} (h : Fl p w w') (hr : Row w a n xs) (hp : ∀ x, a = some x → ¬ p x.block) : Row w' a n xs := ⟨hr.1, hr.2.1, hr.2.2.1, fun j hj => by
  obtain ⟨g, o, e, hc⟩ := hr.2.2.2 j hj
  exact ⟨g, o, e, (World.cell?_of_block (h.2.2.2.2 g (World.block_lt_of_cell? w _ hc) (hp _ e))).trans hc⟩⟩
theorem Fl.own {B : Nat} {v : Value} {xs : List Int} (h : Fl p w w') (ho : Own w B v xs) (hp : ∀ k, v.ownBlock = some k → ¬ p k) : Own w' B v xs := by
  obtain ⟨h1, h2⟩ := ho
  refine ⟨⟨h1.1, ?_⟩, h2⟩
  rcases h1.2 with q | ⟨g, cap, cur, e, hB, hg, r⟩
  · exact .inl q
  · have hlt : g < w.heap.size := by
      rcases Nat.lt_or_ge g w.heap.size with q | q
      · exact q
      · rw [Array.getElem?_eq_none q] at hg; cases hg
    exact .inr ⟨g, cap, cur, e, hB, (h.2.2.2.2 g hlt (hp g (by rw [e]; rfl))).trans hg, r⟩
end
/-- what becomes of a sector that is written and synced. -/
def PPost (b gs gm n : Nat) (S : List (List Int)) (fu : Bool) (at_ : Nat) (xs : List Int) (w : World) (e : Ending) (w' : World) : Prop :=
  ∃ O, S[at_]? = some O ∧ ∃ (dc' : Nat) (fz' : Int), ((fu = true ∧ e = .returned (.int .i64 5) ∧ DS w' b gs gm n [] dc' S fu fz' true) ∨ (fu = true ∧ e = .returned (.int .i64 5) ∧ ∃ br, DS w' b gs gm n [((at_ : Int), O, br)] dc' (S.set at_ xs) fu fz' true) ∨
    (e = .returned (.int .i64 0) ∧ DS w' b gs gm n [] dc' (S.set at_ xs) fu fz' false)) ∧ Fd b gs gm w w'
attribute [local irreducible] wpList
set_option maxHeartbeats 4000000
theorem put_any {w : World} {lb b fr rm : Nat} {s c : Nat} {nt : List Int} {v : Value} {ov : Bool} {gs gm n dc : Nat} {S : List (List Int)} {fu : Bool} {fz : Int} (h : LS w lb b fr rm s c nt v ov) (d : DS w b gs gm n [] dc S fu fz false) (ne : lb ≠ b ∧ lb ≠ gs ∧ lb ≠ gm) (at_ : Nat) (ha : at_ < n) (g o cx : Nat) (xs : List Int) (hr : Row w (some ⟨g, o, none⟩) 64 xs) (ng : g ≠ b ∧ g ≠ gs ∧ g ≠ gm) :
    Calls Try.prog 48 #[.pointer (some ⟨lb, 0, none⟩), .int .i64 ((at_ : Nat) : Int), .slice (some ⟨g, o, none⟩) 64 cx] w fun e w' => PPost b gs gm n S fu at_ xs w e w' := by
  have H := Lib.hid h
  have D := Lib.hid d
  have NE := Lib.hid ne
  have HA := Lib.hid ha
  have HR := Lib.hid hr
  have NG : Hid (∀ p : Addr, some (⟨g, o, none⟩ : Addr) = some p → p.block ≠ b ∧ p.block ≠ gs ∧ p.block ≠ gm) := Lib.hid (fun p hp => by cases hp; exact ng)
  clear h d ne ha hr ng
  go_enter Try.func48, Try.ntmps48
  go_upto_region 0 with (fail)
  refine wp_region_lit ?_
  refine wpL_pure (.int .i64 0) rfl (by kernel_rfl) ?_
  simp only [Act.put, List.setIfInBounds_toArray, List.set_cons_zero, List.set_cons_succ]
  go_upto_region 1 with (fail)
  refine wp_region_lit ?_
  refine wpL_pure (.pointer (some ⟨lb, 0, none⟩)) rfl (by kernel_rfl) ?_
  simp only [Act.put, List.setIfInBounds_toArray, List.set_cons_zero, List.set_cons_succ]
  refine wpL_pure (.pointer (some ⟨lb, 0, none⟩)) rfl (by kernel_rfl) ?_
  simp only [Act.put, List.setIfInBounds_toArray, List.set_cons_zero, List.set_cons_succ]
  refine wpL_pure (.pointer (some ⟨lb, 0, none⟩)) rfl (by kernel_rfl) ?_
  simp only [Act.put, List.setIfInBounds_toArray, List.set_cons_zero, List.set_cons_succ]
  refine wpL_pure (.pointer (some ⟨b, 0, none⟩)) rfl (run_load_one _ _ _ 24 _ _ rfl (lb) (0) rfl (H.out.c0) (by kernel_rfl)) ?_
  simp only [Act.put, List.setIfInBounds_toArray, List.set_cons_zero, List.set_cons_succ]
  refine wpL_pure (.int .i64 ((at_ : Nat) : Int)) rfl (by kernel_rfl) ?_
  simp only [Act.put, List.setIfInBounds_toArray, List.set_cons_zero, List.set_cons_succ]
  refine wpL_pure (.slice (some ⟨g, o, none⟩) 64 cx) rfl (by kernel_rfl) ?_
  simp only [Act.put, List.setIfInBounds_toArray, List.set_cons_zero, List.set_cons_succ]
  refine wpL_call 16 #[.pointer (some ⟨b, 0, none⟩), .int .i64 ((at_ : Nat) : Int), .slice (some ⟨g, o, none⟩) 64 cx] rfl (by kernel_rfl) ((writeD D.out ((at_ : Nat) : Int) _ 64 cx xs HR.out NG.out).mono ?_)
  rintro e w1 (⟨q, _⟩ | ⟨_, m1, rfl, d1, f1⟩ | ⟨_, m1, rfl, k, O, hk, hO, d1, f1⟩)
  · exact absurd ⟨⟨by omega, by have := HA.out; omega⟩, rfl⟩ q
  · have F1 : Hid (DS w1 b gs gm n [] dc S fu (mayF fu fz false) true ∧ Fd b gs gm w w1 ∧ fu = true) := Lib.hid ⟨d1, f1, mayB_no m1⟩
    clear m1 d1 f1
    refine ⟨.int .i64 5, rfl, ?_⟩
    simp only [Act.put, List.setIfInBounds_toArray, List.set_cons_zero, List.set_cons_succ]
    refine wpL_pure (.int .i64 5) rfl (by kernel_rfl) ?_
    simp only [Act.put, List.setIfInBounds_toArray, List.set_cons_zero, List.set_cons_succ]
    go_upto_region 2 with (fail)
    refine wp_region_lit ?_
    refine wpL_pure (.int .i64 5) rfl (by kernel_rfl) ?_
    simp only [Act.put, List.setIfInBounds_toArray, List.set_cons_zero, List.set_cons_succ]
    refine wpL_pure (.bool true) rfl (by kernel_rfl) ?_
    simp only [Act.put, List.setIfInBounds_toArray, List.set_cons_zero, List.set_cons_succ]
    go_upto_region 3 with (fail)
    refine wp_region_lit ?_
    refine wpL_pure (.int .i64 5) rfl (by kernel_rfl) ?_
    simp only [Act.put, List.setIfInBounds_toArray, List.set_cons_zero, List.set_cons_succ]
    refine wpL_pure (.int .i64 5) rfl (by kernel_rfl) ?_
    simp only [Act.put, List.setIfInBounds_toArray, List.set_cons_zero, List.set_cons_succ]
    go_wp2_with fail
    go_ret
    obtain ⟨O, hO, _⟩ := D.out.at HA.out
    exact ⟨O, hO, _, _, .inl ⟨F1.out.2.2, rfl, F1.out.1⟩, F1.out.2.1⟩
  · obtain rfl : k = at_ := by omega
    rw [wrL_nil] at d1
    have F1 : Hid (DS w1 b gs gm n [((k : Int), O, dc)] (dc + 1) (S.set k xs) fu (mayF fu fz false) false ∧ Fd b gs gm w w1 ∧ LS w1 lb b fr rm s c nt v ov ∧ S[k]? = some O) := Lib.hid ⟨d1, f1, H.out.fd f1 NE.out.1 NE.out.2.1 NE.out.2.2, hO⟩
    clear m1 d1 f1 hO hk
    refine ⟨.int .i64 0, rfl, ?_⟩
    simp only [Act.put, List.setIfInBounds_toArray, List.set_cons_zero, List.set_cons_succ]
    refine wpL_pure (.int .i64 0) rfl (by kernel_rfl) ?_
    simp only [Act.put, List.setIfInBounds_toArray, List.set_cons_zero, List.set_cons_succ]
    go_upto_region 2 with (fail)
    refine wp_region_lit ?_
    refine wpL_pure (.int .i64 0) rfl (by kernel_rfl) ?_
    simp only [Act.put, List.setIfInBounds_toArray, List.set_cons_zero, List.set_cons_succ]
    refine wpL_pure (.bool false) rfl (by kernel_rfl) ?_
    simp only [Act.put, List.setIfInBounds_toArray, List.set_cons_zero, List.set_cons_succ]
    go_upto_region 4 with (fail)
    refine wp_region_lit ?_
    refine wpL_pure (.pointer (some ⟨lb, 0, none⟩)) rfl (by kernel_rfl) ?_
    simp only [Act.put, List.setIfInBounds_toArray, List.set_cons_zero, List.set_cons_succ]
    refine wpL_pure (.pointer (some ⟨lb, 0, none⟩)) rfl (by kernel_rfl) ?_
    simp only [Act.put, List.setIfInBounds_toArray, List.set_cons_zero, List.set_cons_succ]
    refine wpL_pure (.pointer (some ⟨lb, 0, none⟩)) rfl (by kernel_rfl) ?_
    simp only [Act.put, List.setIfInBounds_toArray, List.set_cons_zero, List.set_cons_succ]
    refine wpL_pure (.pointer (some ⟨b, 0, none⟩)) rfl (run_load_one _ _ _ 24 _ _ rfl (lb) (0) rfl (F1.out.2.2.1.c0) (by kernel_rfl)) ?_
    simp only [Act.put, List.setIfInBounds_toArray, List.set_cons_zero, List.set_cons_succ]
    refine wpL_call 46 #[.pointer (some ⟨b, 0, none⟩)] rfl (by kernel_rfl) ((syncD F1.out.1).mono ?_)
    rintro e w2 (⟨m2, rfl, d2, f2⟩ | ⟨m2, rfl, d2, f2⟩)
    · refine ⟨.int .i64 5, rfl, ?_⟩
      simp only [Act.put, List.setIfInBounds_toArray, List.set_cons_zero, List.set_cons_succ]
      refine wpL_pure (.int .i64 5) rfl (by kernel_rfl) ?_
      simp only [Act.put, List.setIfInBounds_toArray, List.set_cons_zero, List.set_cons_succ]
      go_wp2_with fail
      go_ret
      exact ⟨O, F1.out.2.2.2, _, _, .inr (.inl ⟨mayB_no m2, rfl, _, d2⟩), F1.out.2.1.trans f2⟩
    · refine ⟨.int .i64 0, rfl, ?_⟩
      simp only [Act.put, List.setIfInBounds_toArray, List.set_cons_zero, List.set_cons_succ]
      refine wpL_pure (.int .i64 0) rfl (by kernel_rfl) ?_
      simp only [Act.put, List.setIfInBounds_toArray, List.set_cons_zero, List.set_cons_succ]
      go_wp2_with fail
      go_ret
      exact ⟨O, F1.out.2.2.2, _, _, .inr (.inr ⟨rfl, d2⟩), F1.out.2.1.trans f2⟩
end Go.Proofs.Yteabblmhcjpboaa.D
