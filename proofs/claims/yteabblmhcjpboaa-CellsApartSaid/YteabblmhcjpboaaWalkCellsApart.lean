/- Two logs on one disk, side by side. -/
import Derived.Test.YteabblmhcjpboaaC15
import Derived.Test.YteabblmhcjpboaaOpen
namespace Go.Proofs.Yteabblmhcjpboaa.D
open Go Go.RowKit
set_option maxRecDepth 100000
attribute [local irreducible] wpList
set_option maxHeartbeats 8000000
theorem apart_any (w : World) (aa ab : Option Addr) (na nb ca cb : Nat) (za zb : List Int) (x : Int) (hx : 0 ≤ x ∧ x ≤ 255) (ha : Sl w aa na ca za) (hb : Sl w ab nb cb zb) : Calls Try.prog 7 #[.slice aa na ca, .slice ab nb cb, .int .u8 x] w fun e w' => e = .returned (.bool true) ∧ Below w.heap.size w w' := by
  have HA : Hid (Sl w aa na ca za ∧ (0 < na → ∀ p, aa = some p → p.block < w.heap.size)) := Lib.hid ⟨ha, fun h => sl_lt ha h⟩
  have HB : Hid (Sl w ab nb cb zb ∧ (0 < nb → ∀ p, ab = some p → p.block < w.heap.size)) := Lib.hid ⟨hb, fun h => sl_lt hb h⟩
  have HX := Lib.hid hx
  have HBX : Hid (∀ y ∈ za ++ zb, 0 ≤ y ∧ y ≤ 255) := Lib.hid (fun y hy => by rcases List.mem_append.1 hy with q | q <;> first | exact ha.1.2.2.1 y q | exact hb.1.2.2.1 y q)
  clear ha hb hx
  go_enter Try.func7, Try.ntmps7
  go_upto_region 0 with (fail)
  refine wp_region_lit ?_
  refine wpL_pure (.bool false) rfl (by kernel_rfl) ?_
  simp only [Act.put, List.setIfInBounds_toArray, List.set_cons_zero, List.set_cons_succ]
  by_cases hbig : 512 < na
  · have F := Lib.hid hbig
    clear hbig
    go_upto_region 1 with (fail)
    refine wp_region_lit ?_
    refine wpL_call 8 #[] rfl (by kernel_rfl) ((awake_any w).mono fun e W1 ⟨he, bb⟩ => ⟨.bool true, he, ?_⟩)
    simp only [Act.put, List.setIfInBounds_toArray, List.set_cons_zero, List.set_cons_succ]
    have B1 : Hid (Below w.heap.size w W1) := Lib.hid bb
    clear bb
    refine wpL_pure (.bool false) rfl (by kernel_rfl) ?_
    simp only [Act.put, List.setIfInBounds_toArray, List.set_cons_zero, List.set_cons_succ]
    refine wpL_pure (.bool false) rfl (by kernel_rfl) ?_
    simp only [Act.put, List.setIfInBounds_toArray, List.set_cons_zero, List.set_cons_succ]
    refine wpL_pure (.slice aa na ca) rfl (by kernel_rfl) ?_
    simp only [Act.put, List.setIfInBounds_toArray, List.set_cons_zero, List.set_cons_succ]
    refine wpL_pure (.int .i64 (na : Int)) rfl (by kernel_rfl) ?_
    simp only [Act.put, List.setIfInBounds_toArray, List.set_cons_zero, List.set_cons_succ]
    refine wpL_pure (.bool true) rfl (run_gti Try.underlying3 rfl rfl rfl (by have := F.out; rw [decide_eq_true_eq]; omega)) ?_
    simp only [Act.put, List.setIfInBounds_toArray, List.set_cons_zero, List.set_cons_succ]
    refine wpL_pure (.bool true) rfl (by kernel_rfl) ?_
    simp only [Act.put, List.setIfInBounds_toArray, List.set_cons_zero, List.set_cons_succ]
    refine wpL_pure (.bool true) rfl (by kernel_rfl) ?_
    simp only [Act.put, List.setIfInBounds_toArray, List.set_cons_zero, List.set_cons_succ]
    refine wpL_skip (by kernel_rfl) ?_
    simp only [Act.put, List.setIfInBounds_toArray, List.set_cons_zero, List.set_cons_succ]
    refine wpL_skip (by kernel_rfl) ?_
    simp only [Act.put, List.setIfInBounds_toArray, List.set_cons_zero, List.set_cons_succ]
    refine wpL_skip (by kernel_rfl) ?_
    simp only [Act.put, List.setIfInBounds_toArray, List.set_cons_zero, List.set_cons_succ]
    refine wpL_skip (by kernel_rfl) ?_
    simp only [Act.put, List.setIfInBounds_toArray, List.set_cons_zero, List.set_cons_succ]
    refine wpL_skip (by kernel_rfl) ?_
    simp only [Act.put, List.setIfInBounds_toArray, List.set_cons_zero, List.set_cons_succ]
    refine wpL_skip (by kernel_rfl) ?_
    simp only [Act.put, List.setIfInBounds_toArray, List.set_cons_zero, List.set_cons_succ]
    refine wpL_pure (.bool true) rfl (by kernel_rfl) ?_
    simp only [Act.put, List.setIfInBounds_toArray, List.set_cons_zero, List.set_cons_succ]
    go_upto_region 2 with (fail)
    refine wp_region_lit ?_
    refine wpL_call 8 #[] rfl (by kernel_rfl) ((awake_any W1).mono fun e W2 ⟨he, bb⟩ => ⟨.bool true, he, ?_⟩)
    simp only [Act.put, List.setIfInBounds_toArray, List.set_cons_zero, List.set_cons_succ]
    have B2 : Hid (Below w.heap.size w W2) := Lib.hid (B1.out.trans (bb.mono B1.out.size))
    clear bb
    refine wpL_pure (.bool true) rfl (by kernel_rfl) ?_
    simp only [Act.put, List.setIfInBounds_toArray, List.set_cons_zero, List.set_cons_succ]
    go_wp2_with fail
    go_ret
    exact ⟨rfl, B2.out⟩
  · by_cases hb2 : 512 - (na : Int) < (nb : Int)
    · have F : Hid (¬ 512 < na ∧ 512 - (na : Int) < (nb : Int)) := Lib.hid ⟨hbig, hb2⟩
      clear hbig hb2
      go_upto_region 1 with (fail)
      refine wp_region_lit ?_
      refine wpL_call 8 #[] rfl (by kernel_rfl) ((awake_any w).mono fun e W1 ⟨he, bb⟩ => ⟨.bool true, he, ?_⟩)
      simp only [Act.put, List.setIfInBounds_toArray, List.set_cons_zero, List.set_cons_succ]
      have B1 : Hid (Below w.heap.size w W1) := Lib.hid bb
      clear bb
      refine wpL_pure (.bool false) rfl (by kernel_rfl) ?_
      simp only [Act.put, List.setIfInBounds_toArray, List.set_cons_zero, List.set_cons_succ]
      refine wpL_pure (.bool false) rfl (by kernel_rfl) ?_
      simp only [Act.put, List.setIfInBounds_toArray, List.set_cons_zero, List.set_cons_succ]
      refine wpL_pure (.slice aa na ca) rfl (by kernel_rfl) ?_
      simp only [Act.put, List.setIfInBounds_toArray, List.set_cons_zero, List.set_cons_succ]
      refine wpL_pure (.int .i64 (na : Int)) rfl (by kernel_rfl) ?_
      simp only [Act.put, List.setIfInBounds_toArray, List.set_cons_zero, List.set_cons_succ]
      refine wpL_pure (.bool false) rfl (run_gti Try.underlying3 rfl rfl rfl (by have := F.out; rw [decide_eq_false_iff_not]; omega)) ?_
      simp only [Act.put, List.setIfInBounds_toArray, List.set_cons_zero, List.set_cons_succ]
      refine wpL_pure (.bool false) rfl (by kernel_rfl) ?_
      simp only [Act.put, List.setIfInBounds_toArray, List.set_cons_zero, List.set_cons_succ]
      refine wpL_pure (.bool false) rfl (by kernel_rfl) ?_
      simp only [Act.put, List.setIfInBounds_toArray, List.set_cons_zero, List.set_cons_succ]
      refine wpL_pure (.slice ab nb cb) rfl (by kernel_rfl) ?_
      simp only [Act.put, List.setIfInBounds_toArray, List.set_cons_zero, List.set_cons_succ]
      refine wpL_pure (.int .i64 (nb : Int)) rfl (by kernel_rfl) ?_
      simp only [Act.put, List.setIfInBounds_toArray, List.set_cons_zero, List.set_cons_succ]
      refine wpL_pure (.slice aa na ca) rfl (by kernel_rfl) ?_
      simp only [Act.put, List.setIfInBounds_toArray, List.set_cons_zero, List.set_cons_succ]
      refine wpL_pure (.int .i64 (na : Int)) rfl (by kernel_rfl) ?_
      simp only [Act.put, List.setIfInBounds_toArray, List.set_cons_zero, List.set_cons_succ]
      refine wpL_pure (.int .i64 (512 - (na : Int))) rfl (run_subi Try.underlying3 rfl rfl rfl _ (by have := F.out; rw [wrap_in _ (by omega) (by omega)])) ?_
      simp only [Act.put, List.setIfInBounds_toArray, List.set_cons_zero, List.set_cons_succ]
      refine wpL_pure (.bool true) rfl (run_gti Try.underlying3 rfl rfl rfl (by have := F.out; rw [decide_eq_true_eq]; omega)) ?_
      simp only [Act.put, List.setIfInBounds_toArray, List.set_cons_zero, List.set_cons_succ]
      refine wpL_pure (.bool true) rfl (by kernel_rfl) ?_
      simp only [Act.put, List.setIfInBounds_toArray, List.set_cons_zero, List.set_cons_succ]
      go_upto_region 2 with (fail)
      refine wp_region_lit ?_
      refine wpL_call 8 #[] rfl (by kernel_rfl) ((awake_any W1).mono fun e W2 ⟨he, bb⟩ => ⟨.bool true, he, ?_⟩)
      simp only [Act.put, List.setIfInBounds_toArray, List.set_cons_zero, List.set_cons_succ]
      have B2 : Hid (Below w.heap.size w W2) := Lib.hid (B1.out.trans (bb.mono B1.out.size))
      clear bb
      refine wpL_pure (.bool true) rfl (by kernel_rfl) ?_
      simp only [Act.put, List.setIfInBounds_toArray, List.set_cons_zero, List.set_cons_succ]
      go_wp2_with fail
      go_ret
      exact ⟨rfl, B2.out⟩
    · have F : Hid (na + nb ≤ 512) := Lib.hid (by omega)
      clear hbig hb2
      go_upto_region 1 with (fail)
      refine wp_region_lit ?_
      refine wpL_call 8 #[] rfl (by kernel_rfl) ((awake_any w).mono fun e W1 ⟨he, bb⟩ => ⟨.bool true, he, ?_⟩)
      simp only [Act.put, List.setIfInBounds_toArray, List.set_cons_zero, List.set_cons_succ]
      have B1 : Hid (Below w.heap.size w W1) := Lib.hid bb
      clear bb
      refine wpL_pure (.bool false) rfl (by kernel_rfl) ?_
      simp only [Act.put, List.setIfInBounds_toArray, List.set_cons_zero, List.set_cons_succ]
      refine wpL_pure (.bool false) rfl (by kernel_rfl) ?_
      simp only [Act.put, List.setIfInBounds_toArray, List.set_cons_zero, List.set_cons_succ]
      refine wpL_pure (.slice aa na ca) rfl (by kernel_rfl) ?_
      simp only [Act.put, List.setIfInBounds_toArray, List.set_cons_zero, List.set_cons_succ]
      refine wpL_pure (.int .i64 (na : Int)) rfl (by kernel_rfl) ?_
      simp only [Act.put, List.setIfInBounds_toArray, List.set_cons_zero, List.set_cons_succ]
      refine wpL_pure (.bool false) rfl (run_gti Try.underlying3 rfl rfl rfl (by have := F.out; rw [decide_eq_false_iff_not]; omega)) ?_
      simp only [Act.put, List.setIfInBounds_toArray, List.set_cons_zero, List.set_cons_succ]
      refine wpL_pure (.bool false) rfl (by kernel_rfl) ?_
      simp only [Act.put, List.setIfInBounds_toArray, List.set_cons_zero, List.set_cons_succ]
      refine wpL_pure (.bool false) rfl (by kernel_rfl) ?_
      simp only [Act.put, List.setIfInBounds_toArray, List.set_cons_zero, List.set_cons_succ]
      refine wpL_pure (.slice ab nb cb) rfl (by kernel_rfl) ?_
      simp only [Act.put, List.setIfInBounds_toArray, List.set_cons_zero, List.set_cons_succ]
      refine wpL_pure (.int .i64 (nb : Int)) rfl (by kernel_rfl) ?_
      simp only [Act.put, List.setIfInBounds_toArray, List.set_cons_zero, List.set_cons_succ]
      refine wpL_pure (.slice aa na ca) rfl (by kernel_rfl) ?_
      simp only [Act.put, List.setIfInBounds_toArray, List.set_cons_zero, List.set_cons_succ]
      refine wpL_pure (.int .i64 (na : Int)) rfl (by kernel_rfl) ?_
      simp only [Act.put, List.setIfInBounds_toArray, List.set_cons_zero, List.set_cons_succ]
      refine wpL_pure (.int .i64 (512 - (na : Int))) rfl (run_subi Try.underlying3 rfl rfl rfl _ (by have := F.out; rw [wrap_in _ (by omega) (by omega)])) ?_
      simp only [Act.put, List.setIfInBounds_toArray, List.set_cons_zero, List.set_cons_succ]
      refine wpL_pure (.bool false) rfl (run_gti Try.underlying3 rfl rfl rfl (by have := F.out; rw [decide_eq_false_iff_not]; omega)) ?_
      simp only [Act.put, List.setIfInBounds_toArray, List.set_cons_zero, List.set_cons_succ]
      refine wpL_pure (.bool false) rfl (by kernel_rfl) ?_
      simp only [Act.put, List.setIfInBounds_toArray, List.set_cons_zero, List.set_cons_succ]
      go_upto_region 3 with (fail)
      refine wp_region_lit ?_
      refine wpL_call 9 #[.int .i64 20] rfl (by kernel_rfl) ((newD 20 (by omega) W1).mono fun e W2 ⟨b, gs, gm, he, d, bb, l1, l2, l3⟩ => ⟨.pointer (some ⟨b, 0, none⟩), he, ?_⟩)
      simp only [Act.put, List.setIfInBounds_toArray, List.set_cons_zero, List.set_cons_succ]
      have F1 : Hid (Below w.heap.size w W2 ∧ DS W2 b gs gm 20 [] 0 (zs 20) false 0 false ∧ w.heap.size ≤ b ∧ w.heap.size ≤ gs ∧ w.heap.size ≤ gm) := Lib.hid (by have z := B1.out.size; exact ⟨B1.out.trans (bb.mono B1.out.size), d, by omega, by omega, by omega⟩)
      clear bb d l1 l2 l3
      refine wpL_pure (.pointer (some ⟨b, 0, none⟩)) rfl (by kernel_rfl) ?_
      simp only [Act.put, List.setIfInBounds_toArray, List.set_cons_zero, List.set_cons_succ]
      go_upto_region 4 with (fail)
      refine wp_region_lit ?_
      refine wpL_pure (.pointer (some ⟨b, 0, none⟩)) rfl (by kernel_rfl) ?_
      simp only [Act.put, List.setIfInBounds_toArray, List.set_cons_zero, List.set_cons_succ]
      refine wpL_call 10 #[.pointer (some ⟨b, 0, none⟩), .int .i64 0, .int .i64 10] rfl (by kernel_rfl) ((open_ok F1.out.2.1 0 8 (by omega) (by omega)).mono ?_)
      rintro e W3 ⟨lbx, sx, tx, bsx, vx, cx, he, hl, op, bb, l1, l2⟩
      obtain ⟨rfl, rfl⟩ := zero_open op
      have F2 : Hid (Below w.heap.size w W3 ∧ DS W3 b gs gm 20 [] 0 (zs 20) false 0 false ∧ LG W3 b gs gm 20 0 8 lbx 0 tx [] vx cx ∧ OpenIs (zs 20) 0 8 0 tx []) := Lib.hid ⟨F1.out.1.trans (bb.mono F1.out.1.size), F1.out.2.1.below bb, hl, op⟩
      have LBX : Hid (w.heap.size ≤ lbx ∧ ∀ k, (Value.slice vx ([] : List Int).length cx).ownBlock = some k → w.heap.size ≤ k) := Lib.hid (by have z := F1.out.1.size; exact ⟨by omega, fun k hk => by have := l2 k hk; omega⟩)
      clear hl op bb l1 l2
      refine ⟨.tuple #[.pointer (some ⟨lbx, 0, none⟩), .int .i64 0], he, ?_⟩
      simp only [Act.put, List.setIfInBounds_toArray, List.set_cons_zero, List.set_cons_succ]
      clear he
      refine wpL_pure (.tuple #[.pointer (some ⟨lbx, 0, none⟩), .int .i64 0]) rfl (by kernel_rfl) ?_
      simp only [Act.put, List.setIfInBounds_toArray, List.set_cons_zero, List.set_cons_succ]
      refine wpL_pure (.pointer (some ⟨lbx, 0, none⟩)) rfl (by kernel_rfl) ?_
      simp only [Act.put, List.setIfInBounds_toArray, List.set_cons_zero, List.set_cons_succ]
      refine wpL_pure (.int .i64 0) rfl (by kernel_rfl) ?_
      simp only [Act.put, List.setIfInBounds_toArray, List.set_cons_zero, List.set_cons_succ]
      refine wpL_pure (.pointer (some ⟨lbx, 0, none⟩)) rfl (by kernel_rfl) ?_
      simp only [Act.put, List.setIfInBounds_toArray, List.set_cons_zero, List.set_cons_succ]
      refine wpL_pure (.int .i64 0) rfl (by kernel_rfl) ?_
      simp only [Act.put, List.setIfInBounds_toArray, List.set_cons_zero, List.set_cons_succ]
      go_upto_region 5 with (fail)
      refine wp_region_lit ?_
      refine wpL_pure (.pointer (some ⟨b, 0, none⟩)) rfl (by kernel_rfl) ?_
      simp only [Act.put, List.setIfInBounds_toArray, List.set_cons_zero, List.set_cons_succ]
      refine wpL_call 10 #[.pointer (some ⟨b, 0, none⟩), .int .i64 10, .int .i64 10] rfl (by kernel_rfl) ((open_ok F2.out.2.1 10 8 (by omega) (by omega)).mono ?_)
      rintro e W4 ⟨lby, sy, ty, bsy, vy, cy, he, hl, op, bb, l1, l2⟩
      obtain ⟨rfl, rfl⟩ := zero_open op
      have F3 : Hid (Below w.heap.size w W4 ∧ DS W4 b gs gm 20 [] 0 (zs 20) false 0 false ∧ LG W4 b gs gm 20 0 8 lbx 0 tx [] vx cx ∧ OpenIs (zs 20) 0 8 0 tx [] ∧ LG W4 b gs gm 20 10 8 lby 0 ty [] vy cy ∧ OpenIs (zs 20) 10 8 0 ty []) := Lib.hid ⟨F2.out.1.trans (bb.mono F2.out.1.size), F2.out.2.1.below bb, F2.out.2.2.1.below bb, F2.out.2.2.2, hl, op⟩
      have LBY : Hid (w.heap.size ≤ lby ∧ (∀ k, (Value.slice vy ([] : List Int).length cy).ownBlock = some k → w.heap.size ≤ k) ∧ AP lbx (.slice vx ([] : List Int).length cx) lby (.slice vy ([] : List Int).length cy)) := Lib.hid (by have z := F2.out.1.size; have q1 := F2.out.2.2.1.1.1.lt; exact ⟨by omega, fun k hk => by have := l2 k hk; omega, by omega, fun k hk => by have := (F2.out.2.2.1.2.1.lt k hk).2; omega, fun k hk => by have := l2 k hk; omega, fun k hk e => by have q2 := (F2.out.2.2.1.2.1.lt k hk).2; have q3 := l2 k e; omega⟩)
      clear hl op bb l1 l2
      refine ⟨.tuple #[.pointer (some ⟨lby, 0, none⟩), .int .i64 0], he, ?_⟩
      simp only [Act.put, List.setIfInBounds_toArray, List.set_cons_zero, List.set_cons_succ]
      clear he
      refine wpL_pure (.tuple #[.pointer (some ⟨lby, 0, none⟩), .int .i64 0]) rfl (by kernel_rfl) ?_
      simp only [Act.put, List.setIfInBounds_toArray, List.set_cons_zero, List.set_cons_succ]
      refine wpL_pure (.pointer (some ⟨lby, 0, none⟩)) rfl (by kernel_rfl) ?_
      simp only [Act.put, List.setIfInBounds_toArray, List.set_cons_zero, List.set_cons_succ]
      refine wpL_pure (.int .i64 0) rfl (by kernel_rfl) ?_
      simp only [Act.put, List.setIfInBounds_toArray, List.set_cons_zero, List.set_cons_succ]
      refine wpL_pure (.pointer (some ⟨lby, 0, none⟩)) rfl (by kernel_rfl) ?_
      simp only [Act.put, List.setIfInBounds_toArray, List.set_cons_zero, List.set_cons_succ]
      refine wpL_pure (.int .i64 0) rfl (by kernel_rfl) ?_
      simp only [Act.put, List.setIfInBounds_toArray, List.set_cons_zero, List.set_cons_succ]
      obtain ⟨x1, hx1⟩ : ∃ q, IntKind.u8.wrap (x + 1) = q := ⟨_, rfl⟩
      have HX1 : Hid (IntKind.u8.wrap (x + 1) = x1 ∧ 0 ≤ x1 ∧ x1 ≤ 255) := Lib.hid ⟨hx1, by rw [← hx1, IntKind.wrap_u8]; omega⟩
      clear hx1
      go_upto_region 6 with (fail)
      refine wp_region_lit ?_
      refine wpL_pure (.int .i64 0) rfl (by kernel_rfl) ?_
      simp only [Act.put, List.setIfInBounds_toArray, List.set_cons_zero, List.set_cons_succ]
      refine wpL_pure (.bool false) rfl (by kernel_rfl) ?_
      simp only [Act.put, List.setIfInBounds_toArray, List.set_cons_zero, List.set_cons_succ]
      refine wpL_pure (.bool false) rfl (by kernel_rfl) ?_
      simp only [Act.put, List.setIfInBounds_toArray, List.set_cons_zero, List.set_cons_succ]
      refine wpL_pure (.int .i64 0) rfl (by kernel_rfl) ?_
      simp only [Act.put, List.setIfInBounds_toArray, List.set_cons_zero, List.set_cons_succ]
      refine wpL_pure (.bool false) rfl (by kernel_rfl) ?_
      simp only [Act.put, List.setIfInBounds_toArray, List.set_cons_zero, List.set_cons_succ]
      refine wpL_pure (.bool false) rfl (by kernel_rfl) ?_
      simp only [Act.put, List.setIfInBounds_toArray, List.set_cons_zero, List.set_cons_succ]
      refine wpL_pure (.bool false) rfl (by kernel_rfl) ?_
      simp only [Act.put, List.setIfInBounds_toArray, List.set_cons_zero, List.set_cons_succ]
      refine wpL_pure (.pointer (some ⟨lbx, 0, none⟩)) rfl (by kernel_rfl) ?_
      simp only [Act.put, List.setIfInBounds_toArray, List.set_cons_zero, List.set_cons_succ]
      refine wpL_pure (.slice aa na ca) rfl (by kernel_rfl) ?_
      simp only [Act.put, List.setIfInBounds_toArray, List.set_cons_zero, List.set_cons_succ]
      refine wpL_pure (.int .u8 x) rfl (by kernel_rfl) ?_
      simp only [Act.put, List.setIfInBounds_toArray, List.set_cons_zero, List.set_cons_succ]
      refine wpL_call 12 #[.int .u8 x] rfl (by kernel_rfl) ((notef_any W4 x).mono fun e N1 ⟨he, bb⟩ => ⟨.agg (u8l (List.replicate 16 x)).toArray, he, ?_⟩)
      simp only [Act.put, List.setIfInBounds_toArray, List.set_cons_zero, List.set_cons_succ]
      have G1 : Hid (Below w.heap.size w N1 ∧ DS N1 b gs gm 20 [] 0 (zs 20) false 0 false ∧ LG N1 b gs gm 20 0 8 lbx 0 tx [] vx cx ∧ OpenIs (zs 20) 0 8 0 tx [] ∧ LG N1 b gs gm 20 10 8 lby 0 ty [] vy cy ∧ OpenIs (zs 20) 10 8 0 ty []) := Lib.hid ⟨F3.out.1.trans (bb.mono F3.out.1.size), F3.out.2.1.below bb, F3.out.2.2.1.below bb, F3.out.2.2.2.1, F3.out.2.2.2.2.1.below bb, F3.out.2.2.2.2.2⟩
      clear bb
      refine wpL_call 11 #[.pointer (some ⟨lbx, 0, none⟩), .slice aa na ca, .agg (u8l (List.replicate 16 x)).toArray] rfl (by kernel_rfl) ((app_ok G1.out.2.2.1 G1.out.2.1 G1.out.2.2.2.1 (by omega) aa na ca za (HA.out.1.below' G1.out.1) (fun hm p hp => by have q := HA.out.2 hm p hp; have e := F1.out.2.2; omega) (List.replicate 16 x) (nt_ok _ ⟨by have := HX.out; omega, by have := HX.out; omega⟩) (by simp only [List.length_append, List.length_nil]; have h1 := HA.out.1.1.1; have h2 := HB.out.1.1.1; have h3 := F.out; omega)).mono ?_)
      rintro e V1 ⟨he, dc1, fz1, S1, v1, c1, hl, hd, ho, hu, hf, hn⟩
      have AQ1 : Hid (AP lbx (.slice v1 ([] ++ za).length c1) lby (.slice vy [].length cy) ∧ ∀ k, (Value.slice v1 ([] ++ za).length c1).ownBlock = some k → w.heap.size ≤ k) := Lib.hid ⟨ap_x LBY.out.2.2 hn G1.out.2.2.2.2.1, fun k hk => by rcases hn k hk with q | q <;> first | (have z := G1.out.1.size; omega) | exact (LBX.out).2 k q⟩
      have F1_ : Hid (Below w.heap.size w V1 ∧ DS V1 b gs gm 20 [] dc1 S1 false fz1 false ∧ LG V1 b gs gm 20 0 8 lbx 1 (List.replicate 16 x) ([] ++ za) v1 c1 ∧ OpenIs S1 0 8 1 (List.replicate 16 x) ([] ++ za) ∧ LG V1 b gs gm 20 10 8 lby 0 ty [] vy cy ∧ OpenIs S1 10 8 0 ty []) := Lib.hid ⟨hf.below G1.out.1 (fun k hk => by have e := F1.out.2.2; have e2 := (LBX.out).1; rcases hk with q | q | q | q | q <;> first | omega | exact (LBX.out).2 k q), hd, hl, ho, ap_far LBY.out.2.2 hf G1.out.2.2.2.2.1, G1.out.2.2.2.2.2.outs hu G1.out.2.2.2.2.1.2.2.1 (by omega)⟩
      clear hl hd ho hu hf hn
      refine ⟨.int .i64 0, he, ?_⟩
      simp only [Act.put, List.setIfInBounds_toArray, List.set_cons_zero, List.set_cons_succ]
      clear he
      refine wpL_pure (.bool false) rfl (by kernel_rfl) ?_
      simp only [Act.put, List.setIfInBounds_toArray, List.set_cons_zero, List.set_cons_succ]
      refine wpL_pure (.bool false) rfl (by kernel_rfl) ?_
      simp only [Act.put, List.setIfInBounds_toArray, List.set_cons_zero, List.set_cons_succ]
      refine wpL_pure (.bool false) rfl (by kernel_rfl) ?_
      simp only [Act.put, List.setIfInBounds_toArray, List.set_cons_zero, List.set_cons_succ]
      refine wpL_pure (.pointer (some ⟨lby, 0, none⟩)) rfl (by kernel_rfl) ?_
      simp only [Act.put, List.setIfInBounds_toArray, List.set_cons_zero, List.set_cons_succ]
      refine wpL_pure (.slice ab nb cb) rfl (by kernel_rfl) ?_
      simp only [Act.put, List.setIfInBounds_toArray, List.set_cons_zero, List.set_cons_succ]
      refine wpL_pure (.int .u8 x) rfl (by kernel_rfl) ?_
      simp only [Act.put, List.setIfInBounds_toArray, List.set_cons_zero, List.set_cons_succ]
      refine wpL_pure (.int .u8 x1) rfl (run_addi Try.underlying5 rfl rfl rfl _ HX1.out.1) ?_
      simp only [Act.put, List.setIfInBounds_toArray, List.set_cons_zero, List.set_cons_succ]
      refine wpL_call 12 #[.int .u8 x1] rfl (by kernel_rfl) ((notef_any V1 x1).mono fun e N2 ⟨he, bb⟩ => ⟨.agg (u8l (List.replicate 16 x1)).toArray, he, ?_⟩)
      simp only [Act.put, List.setIfInBounds_toArray, List.set_cons_zero, List.set_cons_succ]
      have G2 : Hid (Below w.heap.size w N2 ∧ DS N2 b gs gm 20 [] dc1 S1 false fz1 false ∧ LG N2 b gs gm 20 0 8 lbx 1 (List.replicate 16 x) ([] ++ za) v1 c1 ∧ OpenIs S1 0 8 1 (List.replicate 16 x) ([] ++ za) ∧ LG N2 b gs gm 20 10 8 lby 0 ty [] vy cy ∧ OpenIs S1 10 8 0 ty []) := Lib.hid ⟨F1_.out.1.trans (bb.mono F1_.out.1.size), F1_.out.2.1.below bb, F1_.out.2.2.1.below bb, F1_.out.2.2.2.1, F1_.out.2.2.2.2.1.below bb, F1_.out.2.2.2.2.2⟩
      clear bb
      refine wpL_call 11 #[.pointer (some ⟨lby, 0, none⟩), .slice ab nb cb, .agg (u8l (List.replicate 16 x1)).toArray] rfl (by kernel_rfl) ((app_ok G2.out.2.2.2.2.1 G2.out.2.1 G2.out.2.2.2.2.2 (by omega) ab nb cb zb (HB.out.1.below' G2.out.1) (fun hm p hp => by have q := HB.out.2 hm p hp; have e := F1.out.2.2; omega) (List.replicate 16 x1) (nt_ok _ ⟨by have := HX1.out; omega, by have := HX1.out; omega⟩) (by simp only [List.length_append, List.length_nil]; have h1 := HA.out.1.1.1; have h2 := HB.out.1.1.1; have h3 := F.out; omega)).mono ?_)
      rintro e V2 ⟨he, dc2, fz2, S2, v2, c2, hl, hd, ho, hu, hf, hn⟩
      have AQ2 : Hid (AP lbx (.slice v1 ([] ++ za).length c1) lby (.slice v2 ([] ++ zb).length c2) ∧ ∀ k, (Value.slice v2 ([] ++ zb).length c2).ownBlock = some k → w.heap.size ≤ k) := Lib.hid ⟨(ap_x (AP.symm AQ1.out.1) hn G2.out.2.2.1).symm, fun k hk => by rcases hn k hk with q | q <;> first | (have z := G2.out.1.size; omega) | exact ((And.intro LBY.out.1 LBY.out.2.1)).2 k q⟩
      have F2_ : Hid (Below w.heap.size w V2 ∧ DS V2 b gs gm 20 [] dc2 S2 false fz2 false ∧ LG V2 b gs gm 20 0 8 lbx 1 (List.replicate 16 x) ([] ++ za) v1 c1 ∧ OpenIs S2 0 8 1 (List.replicate 16 x) ([] ++ za) ∧ LG V2 b gs gm 20 10 8 lby 1 (List.replicate 16 x1) ([] ++ zb) v2 c2 ∧ OpenIs S2 10 8 1 (List.replicate 16 x1) ([] ++ zb)) := Lib.hid ⟨hf.below G2.out.1 (fun k hk => by have e := F1.out.2.2; have e2 := ((And.intro LBY.out.1 LBY.out.2.1)).1; rcases hk with q | q | q | q | q <;> first | omega | exact ((And.intro LBY.out.1 LBY.out.2.1)).2 k q), hd, ap_far (AP.symm AQ1.out.1) hf G2.out.2.2.1, G2.out.2.2.2.1.outs hu G2.out.2.2.1.2.2.1 (by omega), hl, ho⟩
      clear hl hd ho hu hf hn
      refine ⟨.int .i64 0, he, ?_⟩
      simp only [Act.put, List.setIfInBounds_toArray, List.set_cons_zero, List.set_cons_succ]
      clear he
      refine wpL_pure (.bool false) rfl (by kernel_rfl) ?_
      simp only [Act.put, List.setIfInBounds_toArray, List.set_cons_zero, List.set_cons_succ]
      refine wpL_pure (.bool false) rfl (by kernel_rfl) ?_
      simp only [Act.put, List.setIfInBounds_toArray, List.set_cons_zero, List.set_cons_succ]
      refine wpL_pure (.bool false) rfl (by kernel_rfl) ?_
      simp only [Act.put, List.setIfInBounds_toArray, List.set_cons_zero, List.set_cons_succ]
      refine wpL_pure (.pointer (some ⟨lbx, 0, none⟩)) rfl (by kernel_rfl) ?_
      simp only [Act.put, List.setIfInBounds_toArray, List.set_cons_zero, List.set_cons_succ]
      refine wpL_pure (.slice ab nb cb) rfl (by kernel_rfl) ?_
      simp only [Act.put, List.setIfInBounds_toArray, List.set_cons_zero, List.set_cons_succ]
      refine wpL_pure (.int .u8 x) rfl (by kernel_rfl) ?_
      simp only [Act.put, List.setIfInBounds_toArray, List.set_cons_zero, List.set_cons_succ]
      refine wpL_call 12 #[.int .u8 x] rfl (by kernel_rfl) ((notef_any V2 x).mono fun e N3 ⟨he, bb⟩ => ⟨.agg (u8l (List.replicate 16 x)).toArray, he, ?_⟩)
      simp only [Act.put, List.setIfInBounds_toArray, List.set_cons_zero, List.set_cons_succ]
      have G3 : Hid (Below w.heap.size w N3 ∧ DS N3 b gs gm 20 [] dc2 S2 false fz2 false ∧ LG N3 b gs gm 20 0 8 lbx 1 (List.replicate 16 x) ([] ++ za) v1 c1 ∧ OpenIs S2 0 8 1 (List.replicate 16 x) ([] ++ za) ∧ LG N3 b gs gm 20 10 8 lby 1 (List.replicate 16 x1) ([] ++ zb) v2 c2 ∧ OpenIs S2 10 8 1 (List.replicate 16 x1) ([] ++ zb)) := Lib.hid ⟨F2_.out.1.trans (bb.mono F2_.out.1.size), F2_.out.2.1.below bb, F2_.out.2.2.1.below bb, F2_.out.2.2.2.1, F2_.out.2.2.2.2.1.below bb, F2_.out.2.2.2.2.2⟩
      clear bb
      refine wpL_call 11 #[.pointer (some ⟨lbx, 0, none⟩), .slice ab nb cb, .agg (u8l (List.replicate 16 x)).toArray] rfl (by kernel_rfl) ((app_ok G3.out.2.2.1 G3.out.2.1 G3.out.2.2.2.1 (by omega) ab nb cb zb (HB.out.1.below' G3.out.1) (fun hm p hp => by have q := HB.out.2 hm p hp; have e := F1.out.2.2; omega) (List.replicate 16 x) (nt_ok _ ⟨by have := HX.out; omega, by have := HX.out; omega⟩) (by simp only [List.length_append, List.length_nil]; have h1 := HA.out.1.1.1; have h2 := HB.out.1.1.1; have h3 := F.out; omega)).mono ?_)
      rintro e V3 ⟨he, dc3, fz3, S3, v3, c3, hl, hd, ho, hu, hf, hn⟩
      have AQ3 : Hid (AP lbx (.slice v3 (([] ++ za) ++ zb).length c3) lby (.slice v2 ([] ++ zb).length c2) ∧ ∀ k, (Value.slice v3 (([] ++ za) ++ zb).length c3).ownBlock = some k → w.heap.size ≤ k) := Lib.hid ⟨ap_x AQ2.out.1 hn G3.out.2.2.2.2.1, fun k hk => by rcases hn k hk with q | q <;> first | (have z := G3.out.1.size; omega) | exact ((And.intro (LBX.out).1 AQ1.out.2)).2 k q⟩
      have F3_ : Hid (Below w.heap.size w V3 ∧ DS V3 b gs gm 20 [] dc3 S3 false fz3 false ∧ LG V3 b gs gm 20 0 8 lbx 2 (List.replicate 16 x) (([] ++ za) ++ zb) v3 c3 ∧ OpenIs S3 0 8 2 (List.replicate 16 x) (([] ++ za) ++ zb) ∧ LG V3 b gs gm 20 10 8 lby 1 (List.replicate 16 x1) ([] ++ zb) v2 c2 ∧ OpenIs S3 10 8 1 (List.replicate 16 x1) ([] ++ zb)) := Lib.hid ⟨hf.below G3.out.1 (fun k hk => by have e := F1.out.2.2; have e2 := ((And.intro (LBX.out).1 AQ1.out.2)).1; rcases hk with q | q | q | q | q <;> first | omega | exact ((And.intro (LBX.out).1 AQ1.out.2)).2 k q), hd, hl, ho, ap_far AQ2.out.1 hf G3.out.2.2.2.2.1, G3.out.2.2.2.2.2.outs hu G3.out.2.2.2.2.1.2.2.1 (by omega)⟩
      clear hl hd ho hu hf hn
      refine ⟨.int .i64 0, he, ?_⟩
      simp only [Act.put, List.setIfInBounds_toArray, List.set_cons_zero, List.set_cons_succ]
      clear he
      refine wpL_pure (.bool false) rfl (by kernel_rfl) ?_
      simp only [Act.put, List.setIfInBounds_toArray, List.set_cons_zero, List.set_cons_succ]
      refine wpL_pure (.bool false) rfl (by kernel_rfl) ?_
      simp only [Act.put, List.setIfInBounds_toArray, List.set_cons_zero, List.set_cons_succ]
      refine wpL_pure (.bool false) rfl (by kernel_rfl) ?_
      simp only [Act.put, List.setIfInBounds_toArray, List.set_cons_zero, List.set_cons_succ]
      refine wpL_pure (.pointer (some ⟨lby, 0, none⟩)) rfl (by kernel_rfl) ?_
      simp only [Act.put, List.setIfInBounds_toArray, List.set_cons_zero, List.set_cons_succ]
      refine wpL_call 25 #[.pointer (some ⟨lby, 0, none⟩)] rfl (by kernel_rfl) ((clr_ok F3_.out.2.2.2.2.1 F3_.out.2.1 F3_.out.2.2.2.2.2 (by omega)).mono ?_)
      rintro e V4 ⟨he, dc4, fz4, S4, v4, c4, hl, hd, ho, hu, hf, hn⟩
      have AQ4 : Hid (AP lbx (.slice v3 (([] ++ za) ++ zb).length c3) lby (.slice v4 [].length c4) ∧ ∀ k, (Value.slice v4 [].length c4).ownBlock = some k → w.heap.size ≤ k) := Lib.hid ⟨(ap_x (AP.symm AQ3.out.1) hn F3_.out.2.2.1).symm, fun k hk => by rcases hn k hk with q | q <;> first | (have z := F3_.out.1.size; omega) | exact ((And.intro ((And.intro LBY.out.1 LBY.out.2.1)).1 AQ2.out.2)).2 k q⟩
      have F4_ : Hid (Below w.heap.size w V4 ∧ DS V4 b gs gm 20 [] dc4 S4 false fz4 false ∧ LG V4 b gs gm 20 0 8 lbx 2 (List.replicate 16 x) (([] ++ za) ++ zb) v3 c3 ∧ OpenIs S4 0 8 2 (List.replicate 16 x) (([] ++ za) ++ zb) ∧ LG V4 b gs gm 20 10 8 lby 2 (List.replicate 16 x1) [] v4 c4 ∧ OpenIs S4 10 8 2 (List.replicate 16 x1) []) := Lib.hid ⟨hf.below F3_.out.1 (fun k hk => by have e := F1.out.2.2; have e2 := ((And.intro ((And.intro LBY.out.1 LBY.out.2.1)).1 AQ2.out.2)).1; rcases hk with q | q | q | q | q <;> first | omega | exact ((And.intro ((And.intro LBY.out.1 LBY.out.2.1)).1 AQ2.out.2)).2 k q), hd, ap_far (AP.symm AQ3.out.1) hf F3_.out.2.2.1, F3_.out.2.2.2.1.outs hu F3_.out.2.2.1.2.2.1 (by omega), hl, ho⟩
      clear hl hd ho hu hf hn
      refine ⟨.int .i64 0, he, ?_⟩
      simp only [Act.put, List.setIfInBounds_toArray, List.set_cons_zero, List.set_cons_succ]
      clear he
      refine wpL_pure (.bool false) rfl (by kernel_rfl) ?_
      simp only [Act.put, List.setIfInBounds_toArray, List.set_cons_zero, List.set_cons_succ]
      refine wpL_pure (.bool false) rfl (by kernel_rfl) ?_
      simp only [Act.put, List.setIfInBounds_toArray, List.set_cons_zero, List.set_cons_succ]
      go_upto_region 8 with (fail)
      refine wp_region_lit ?_
      refine wpL_pure (.pointer (some ⟨b, 0, none⟩)) rfl (by kernel_rfl) ?_
      simp only [Act.put, List.setIfInBounds_toArray, List.set_cons_zero, List.set_cons_succ]
      refine wpL_call 10 #[.pointer (some ⟨b, 0, none⟩), .int .i64 0, .int .i64 10] rfl (by kernel_rfl) ((open_ok F4_.out.2.1 0 8 (by omega) (by omega)).mono ?_)
      rintro e U1 ⟨lu, qu, tu, bu, vu, cu, he, hl, op, bb, _, _⟩
      obtain ⟨rfl, rfl, rfl⟩ := F4_.out.2.2.2.1.inj op
      have K1 : Hid (Below w.heap.size w U1 ∧ DS U1 b gs gm 20 [] dc4 S4 false fz4 false ∧ LG U1 b gs gm 20 0 8 lu 2 (List.replicate 16 x) (([] ++ za) ++ zb) vu cu) := Lib.hid ⟨F4_.out.1.trans (bb.mono F4_.out.1.size), F4_.out.2.1.below bb, hl⟩
      clear hl op bb
      refine ⟨.tuple #[.pointer (some ⟨lu, 0, none⟩), .int .i64 0], he, ?_⟩
      simp only [Act.put, List.setIfInBounds_toArray, List.set_cons_zero, List.set_cons_succ]
      clear he
      refine wpL_pure (.tuple #[.pointer (some ⟨lu, 0, none⟩), .int .i64 0]) rfl (by kernel_rfl) ?_
      simp only [Act.put, List.setIfInBounds_toArray, List.set_cons_zero, List.set_cons_succ]
      refine wpL_pure (.pointer (some ⟨lu, 0, none⟩)) rfl (by kernel_rfl) ?_
      simp only [Act.put, List.setIfInBounds_toArray, List.set_cons_zero, List.set_cons_succ]
      refine wpL_pure (.int .i64 0) rfl (by kernel_rfl) ?_
      simp only [Act.put, List.setIfInBounds_toArray, List.set_cons_zero, List.set_cons_succ]
      refine wpL_pure (.pointer (some ⟨lu, 0, none⟩)) rfl (by kernel_rfl) ?_
      simp only [Act.put, List.setIfInBounds_toArray, List.set_cons_zero, List.set_cons_succ]
      refine wpL_pure (.int .i64 0) rfl (by kernel_rfl) ?_
      simp only [Act.put, List.setIfInBounds_toArray, List.set_cons_zero, List.set_cons_succ]
      go_upto_region 9 with (fail)
      refine wp_region_lit ?_
      refine wpL_pure (.pointer (some ⟨b, 0, none⟩)) rfl (by kernel_rfl) ?_
      simp only [Act.put, List.setIfInBounds_toArray, List.set_cons_zero, List.set_cons_succ]
      refine wpL_call 10 #[.pointer (some ⟨b, 0, none⟩), .int .i64 10, .int .i64 10] rfl (by kernel_rfl) ((open_ok K1.out.2.1 10 8 (by omega) (by omega)).mono ?_)
      rintro e U2 ⟨lv, qv, tv, bv, vv, cv, he, hl, op, bb, _, _⟩
      obtain ⟨rfl, rfl, rfl⟩ := F4_.out.2.2.2.2.2.inj op
      have K2 : Hid (Below w.heap.size w U2 ∧ LG U2 b gs gm 20 0 8 lu 2 (List.replicate 16 x) (([] ++ za) ++ zb) vu cu ∧ LG U2 b gs gm 20 10 8 lv 2 (List.replicate 16 x1) [] vv cv) := Lib.hid ⟨K1.out.1.trans (bb.mono K1.out.1.size), K1.out.2.2.below bb, hl⟩
      clear hl op bb
      refine ⟨.tuple #[.pointer (some ⟨lv, 0, none⟩), .int .i64 0], he, ?_⟩
      simp only [Act.put, List.setIfInBounds_toArray, List.set_cons_zero, List.set_cons_succ]
      clear he
      refine wpL_pure (.tuple #[.pointer (some ⟨lv, 0, none⟩), .int .i64 0]) rfl (by kernel_rfl) ?_
      simp only [Act.put, List.setIfInBounds_toArray, List.set_cons_zero, List.set_cons_succ]
      refine wpL_pure (.pointer (some ⟨lv, 0, none⟩)) rfl (by kernel_rfl) ?_
      simp only [Act.put, List.setIfInBounds_toArray, List.set_cons_zero, List.set_cons_succ]
      refine wpL_pure (.int .i64 0) rfl (by kernel_rfl) ?_
      simp only [Act.put, List.setIfInBounds_toArray, List.set_cons_zero, List.set_cons_succ]
      refine wpL_pure (.pointer (some ⟨lv, 0, none⟩)) rfl (by kernel_rfl) ?_
      simp only [Act.put, List.setIfInBounds_toArray, List.set_cons_zero, List.set_cons_succ]
      refine wpL_pure (.int .i64 0) rfl (by kernel_rfl) ?_
      simp only [Act.put, List.setIfInBounds_toArray, List.set_cons_zero, List.set_cons_succ]
      have K2 := Lib.hid (show Below w.heap.size w U2.drew ∧ LG U2.drew b gs gm 20 0 8 lu 2 (List.replicate 16 x) (([] ++ za) ++ zb) vu cu ∧ LG U2.drew b gs gm 20 10 8 lv 2 (List.replicate 16 x1) [] vv cv from ⟨K2.out.1.drew, K2.out.2.1, K2.out.2.2⟩)
      go_upto_region 10 with (fail)
      refine region_anyT (fun X => (Below w.heap.size w X ∧ LG X b gs gm 20 0 8 lu 2 (List.replicate 16 x) (([] ++ za) ++ zb) vu cu ∧ LG X b gs gm 20 10 8 lv 2 (List.replicate 16 x1) [] vv cv) ∧ Row X aa na za ∧ Row X ab nb zb) (by kernel_rfl) 49 49 rfl ?_
      refine wpAnyT_take (i := 0) (oi := ⟨some 89, _, _, _, _, _⟩) (v := .int .i64 0) rfl (by kernel_rfl) (by kernel_rfl) (by kernel_rfl) (fun _ _ _ h => h) (by kernel_rfl) (Or.inl ⟨rfl, fun w h => by kernel_rfl⟩) (⟨K2.out, HA.out.1.1.keep K2.out.1, HB.out.1.1.keep K2.out.1⟩) ?_
      simp only [Act.put, List.setIfInBounds_toArray, List.set_cons_zero, List.set_cons_succ]
      refine wpAnyT_take (i := 1) (oi := ⟨some 90, _, _, _, _, _⟩) (v := .bool true) rfl (by kernel_rfl) (by kernel_rfl) (by kernel_rfl) (fun _ _ _ h => h) (by kernel_rfl) (Or.inl ⟨rfl, fun w h => by kernel_rfl⟩) (⟨K2.out, HA.out.1.1.keep K2.out.1, HB.out.1.1.keep K2.out.1⟩) ?_
      simp only [Act.put, List.setIfInBounds_toArray, List.set_cons_zero, List.set_cons_succ]
      refine wpAnyT_take (i := 2) (oi := ⟨some 91, _, _, _, _, _⟩) (v := .bool true) rfl (by kernel_rfl) (by kernel_rfl) (by kernel_rfl) (fun _ _ _ h => h) (by kernel_rfl) (Or.inl ⟨rfl, fun w h => by kernel_rfl⟩) (⟨K2.out, HA.out.1.1.keep K2.out.1, HB.out.1.1.keep K2.out.1⟩) ?_
      simp only [Act.put, List.setIfInBounds_toArray, List.set_cons_zero, List.set_cons_succ]
      refine wpAnyT_take (i := 3) (oi := ⟨some 92, _, _, _, _, _⟩) (v := .int .i64 0) rfl (by kernel_rfl) (by kernel_rfl) (by kernel_rfl) (fun _ _ _ h => h) (by kernel_rfl) (Or.inl ⟨rfl, fun w h => by kernel_rfl⟩) (⟨K2.out, HA.out.1.1.keep K2.out.1, HB.out.1.1.keep K2.out.1⟩) ?_
      simp only [Act.put, List.setIfInBounds_toArray, List.set_cons_zero, List.set_cons_succ]
      refine wpAnyT_take (i := 4) (oi := ⟨some 93, _, _, _, _, _⟩) (v := .bool true) rfl (by kernel_rfl) (by kernel_rfl) (by kernel_rfl) (fun _ _ _ h => h) (by kernel_rfl) (Or.inl ⟨rfl, fun w h => by kernel_rfl⟩) (⟨K2.out, HA.out.1.1.keep K2.out.1, HB.out.1.1.keep K2.out.1⟩) ?_
      simp only [Act.put, List.setIfInBounds_toArray, List.set_cons_zero, List.set_cons_succ]
      refine wpAnyT_take (i := 5) (oi := ⟨some 94, _, _, _, _, _⟩) (v := .bool true) rfl (by kernel_rfl) (by kernel_rfl) (by kernel_rfl) (fun _ _ _ h => h) (by kernel_rfl) (Or.inl ⟨rfl, fun w h => by kernel_rfl⟩) (⟨K2.out, HA.out.1.1.keep K2.out.1, HB.out.1.1.keep K2.out.1⟩) ?_
      simp only [Act.put, List.setIfInBounds_toArray, List.set_cons_zero, List.set_cons_succ]
      refine wpAnyT_take (i := 6) (oi := ⟨some 95, _, _, _, _, _⟩) (v := .bool true) rfl (by kernel_rfl) (by kernel_rfl) (by kernel_rfl) (fun _ _ _ h => h) (by kernel_rfl) (Or.inl ⟨rfl, fun w h => by kernel_rfl⟩) (⟨K2.out, HA.out.1.1.keep K2.out.1, HB.out.1.1.keep K2.out.1⟩) ?_
      simp only [Act.put, List.setIfInBounds_toArray, List.set_cons_zero, List.set_cons_succ]
      refine wpAnyT_take (i := 7) (oi := ⟨some 96, _, _, _, _, _⟩) (v := .pointer (some ⟨lu, 0, none⟩)) rfl (by kernel_rfl) (by kernel_rfl) (by kernel_rfl) (fun _ _ _ h => h) (by kernel_rfl) (Or.inl ⟨rfl, fun w h => by kernel_rfl⟩) (⟨K2.out, HA.out.1.1.keep K2.out.1, HB.out.1.1.keep K2.out.1⟩) ?_
      simp only [Act.put, List.setIfInBounds_toArray, List.set_cons_zero, List.set_cons_succ]
      refine wpAnyT_take (i := 10) (oi := ⟨some 99, _, _, _, _, _⟩) (v := .slice aa na ca) rfl (by kernel_rfl) (by kernel_rfl) (by kernel_rfl) (fun _ _ _ h => h) (by kernel_rfl) (Or.inl ⟨rfl, fun w h => by kernel_rfl⟩) (⟨K2.out, HA.out.1.1.keep K2.out.1, HB.out.1.1.keep K2.out.1⟩) ?_
      simp only [Act.put, List.setIfInBounds_toArray, List.set_cons_zero, List.set_cons_succ]
      refine wpAnyT_take (i := 11) (oi := ⟨some 100, _, _, _, _, _⟩) (v := .string (strOfNums za)) rfl (by kernel_rfl) (by kernel_rfl) (by kernel_rfl) (fun _ _ _ h => h) (by kernel_rfl) (Or.inl ⟨rfl, fun w h => run_conv_str _ _ _ _ aa na ca _ rfl rfl h.2.1⟩) (⟨K2.out, HA.out.1.1.keep K2.out.1, HB.out.1.1.keep K2.out.1⟩) ?_
      simp only [Act.put, List.setIfInBounds_toArray, List.set_cons_zero, List.set_cons_succ]
      refine wpAnyT_take (i := 12) (oi := ⟨some 101, _, _, _, _, _⟩) (v := .slice ab nb cb) rfl (by kernel_rfl) (by kernel_rfl) (by kernel_rfl) (fun _ _ _ h => h) (by kernel_rfl) (Or.inl ⟨rfl, fun w h => by kernel_rfl⟩) (⟨K2.out, HA.out.1.1.keep K2.out.1, HB.out.1.1.keep K2.out.1⟩) ?_
      simp only [Act.put, List.setIfInBounds_toArray, List.set_cons_zero, List.set_cons_succ]
      refine wpAnyT_take (i := 13) (oi := ⟨some 102, _, _, _, _, _⟩) (v := .string (strOfNums zb)) rfl (by kernel_rfl) (by kernel_rfl) (by kernel_rfl) (fun _ _ _ h => h) (by kernel_rfl) (Or.inl ⟨rfl, fun w h => run_conv_str _ _ _ _ ab nb cb _ rfl rfl h.2.2⟩) (⟨K2.out, HA.out.1.1.keep K2.out.1, HB.out.1.1.keep K2.out.1⟩) ?_
      simp only [Act.put, List.setIfInBounds_toArray, List.set_cons_zero, List.set_cons_succ]
      refine wpAnyT_take (i := 14) (oi := ⟨some 103, _, _, _, _, _⟩) (v := .string (strOfNums (za ++ zb))) rfl (by kernel_rfl) (by kernel_rfl) (by kernel_rfl) (fun _ _ _ h => h) (by kernel_rfl) (Or.inl ⟨rfl, fun w h => run_str_cat _ _ _ _ _ _ _ rfl rfl rfl (by have := HA.out.1.1.1; have := F.out; omega) (by have := HB.out.1.1.1; have := F.out; omega)⟩) (⟨K2.out, HA.out.1.1.keep K2.out.1, HB.out.1.1.keep K2.out.1⟩) ?_
      simp only [Act.put, List.setIfInBounds_toArray, List.set_cons_zero, List.set_cons_succ]
      refine wpAnyT_one (i := 8) (by kernel_rfl) ?_
      refine op_call (o := ⟨some 97, _, _, _, _, _⟩) 13 #[.pointer (some ⟨lu, 0, none⟩)] rfl rfl (by kernel_rfl) ((bytes_any (v := undef) K2.out.2.1.1 K2.out.2.1.2.1 (by have := K2.out.2.1.2.2.1; omega)).mono fun e X3 h => ?_)
      obtain ⟨up, he, hb, ho⟩ := h
      have bb : Below U2.drew.heap.size U2.drew X3 := hb
      obtain ⟨wp, zp, eu⟩ := ho.slice
      subst eu
      have K3 : Hid (Below w.heap.size w X3 ∧ LG X3 b gs gm 20 0 8 lu 2 (List.replicate 16 x) (([] ++ za) ++ zb) vu cu ∧ LG X3 b gs gm 20 10 8 lv 2 (List.replicate 16 x1) [] vv cv) := Lib.hid ⟨K2.out.1.trans (bb.mono K2.out.1.size), K2.out.2.1.below bb, K2.out.2.2.below bb⟩
      have Rp : Hid (Row X3 wp (([] ++ za) ++ zb).length (([] ++ za) ++ zb)) := Lib.hid ho.row.1
      refine ⟨.slice wp (([] ++ za) ++ zb).length zp, he, fun _ => ⟨K3.out, HA.out.1.1.keep K3.out.1, HB.out.1.1.keep K3.out.1⟩, ?_⟩
      simp only [Act.put, List.setIfInBounds_toArray, List.set_cons_zero, List.set_cons_succ]
      clear he hb ho bb
      refine wpAnyT_one (i := 9) (by kernel_rfl) ?_
      refine op_valw (o := ⟨some 98, _, _, _, _, _⟩) (.string (strOfNums (([] ++ za) ++ zb))) X3 rfl rfl (run_conv_str _ _ _ _ wp _ zp _ rfl rfl Rp.out) ?_
      refine ⟨fun _ => ⟨K3.out, HA.out.1.1.keep K3.out.1, HB.out.1.1.keep K3.out.1⟩, ?_⟩
      simp only [Act.put, List.setIfInBounds_toArray, List.set_cons_zero, List.set_cons_succ]
      refine wpAnyT_take (i := 15) (oi := ⟨some 104, _, _, _, _, _⟩) (v := .bool true) rfl (by kernel_rfl) (by kernel_rfl) (by kernel_rfl) (fun _ _ _ h => h) (by kernel_rfl) (Or.inl ⟨rfl, fun w h => run_str_eql _ _ _ _ _ (([] ++ za) ++ zb) (za ++ zb) true rfl rfl rfl (by simp) (HBX.out) (HBX.out)⟩) (⟨K3.out, HA.out.1.1.keep K3.out.1, HB.out.1.1.keep K3.out.1⟩) ?_
      simp only [Act.put, List.setIfInBounds_toArray, List.set_cons_zero, List.set_cons_succ]
      refine wpAnyT_take (i := 16) (oi := ⟨some 105, _, _, _, _, _⟩) (v := .bool true) rfl (by kernel_rfl) (by kernel_rfl) (by kernel_rfl) (fun _ _ _ h => h) (by kernel_rfl) (Or.inl ⟨rfl, fun w h => by kernel_rfl⟩) (⟨K3.out, HA.out.1.1.keep K3.out.1, HB.out.1.1.keep K3.out.1⟩) ?_
      simp only [Act.put, List.setIfInBounds_toArray, List.set_cons_zero, List.set_cons_succ]
      refine wpAnyT_take (i := 17) (oi := ⟨some 106, _, _, _, _, _⟩) (v := .bool true) rfl (by kernel_rfl) (by kernel_rfl) (by kernel_rfl) (fun _ _ _ h => h) (by kernel_rfl) (Or.inl ⟨rfl, fun w h => by kernel_rfl⟩) (⟨K3.out, HA.out.1.1.keep K3.out.1, HB.out.1.1.keep K3.out.1⟩) ?_
      simp only [Act.put, List.setIfInBounds_toArray, List.set_cons_zero, List.set_cons_succ]
      refine wpAnyT_take (i := 18) (oi := ⟨some 107, _, _, _, _, _⟩) (v := .pointer (some ⟨lu, 0, none⟩)) rfl (by kernel_rfl) (by kernel_rfl) (by kernel_rfl) (fun _ _ _ h => h) (by kernel_rfl) (Or.inl ⟨rfl, fun w h => by kernel_rfl⟩) (⟨K3.out, HA.out.1.1.keep K3.out.1, HB.out.1.1.keep K3.out.1⟩) ?_
      simp only [Act.put, List.setIfInBounds_toArray, List.set_cons_zero, List.set_cons_succ]
      refine wpAnyT_take (i := 20) (oi := ⟨some 109, _, _, _, _, _⟩) (v := .int .u8 x) rfl (by kernel_rfl) (by kernel_rfl) (by kernel_rfl) (fun _ _ _ h => h) (by kernel_rfl) (Or.inl ⟨rfl, fun w h => by kernel_rfl⟩) (⟨K3.out, HA.out.1.1.keep K3.out.1, HB.out.1.1.keep K3.out.1⟩) ?_
      simp only [Act.put, List.setIfInBounds_toArray, List.set_cons_zero, List.set_cons_succ]
      refine wpAnyT_one (i := 19) (by kernel_rfl) ?_
      refine op_call (o := ⟨some 108, _, _, _, _, _⟩) 15 #[.pointer (some ⟨lu, 0, none⟩)] rfl rfl (by kernel_rfl) ((note_any K3.out.2.1.1).mono fun e X4 h => ?_)
      have bb : Below X3.heap.size X3 X4 := h.2
      have K4 : Hid (Below w.heap.size w X4 ∧ LG X4 b gs gm 20 0 8 lu 2 (List.replicate 16 x) (([] ++ za) ++ zb) vu cu ∧ LG X4 b gs gm 20 10 8 lv 2 (List.replicate 16 x1) [] vv cv) := Lib.hid ⟨K3.out.1.trans (bb.mono K3.out.1.size), K3.out.2.1.below bb, K3.out.2.2.below bb⟩
      refine ⟨.agg (u8l (List.replicate 16 x)).toArray, h.1, fun _ => ⟨K4.out, HA.out.1.1.keep K4.out.1, HB.out.1.1.keep K4.out.1⟩, ?_⟩
      simp only [Act.put, List.setIfInBounds_toArray, List.set_cons_zero, List.set_cons_succ]
      clear h bb
      refine wpAnyT_one (i := 21) (by kernel_rfl) ?_
      refine op_call (o := ⟨some 110, _, _, _, _, _⟩) 12 #[.int .u8 x] rfl rfl (by kernel_rfl) ((notef_any _ x).mono fun e X5 h => ?_)
      have bb : Below X4.heap.size X4 X5 := h.2
      have K5 : Hid (Below w.heap.size w X5 ∧ LG X5 b gs gm 20 0 8 lu 2 (List.replicate 16 x) (([] ++ za) ++ zb) vu cu ∧ LG X5 b gs gm 20 10 8 lv 2 (List.replicate 16 x1) [] vv cv) := Lib.hid ⟨K4.out.1.trans (bb.mono K4.out.1.size), K4.out.2.1.below bb, K4.out.2.2.below bb⟩
      refine ⟨.agg (u8l (List.replicate 16 x)).toArray, h.1, fun _ => ⟨K5.out, HA.out.1.1.keep K5.out.1, HB.out.1.1.keep K5.out.1⟩, ?_⟩
      simp only [Act.put, List.setIfInBounds_toArray, List.set_cons_zero, List.set_cons_succ]
      clear h bb
      refine wpAnyT_take (i := 22) (oi := ⟨some 111, _, _, _, _, _⟩) (v := .bool true) rfl (by kernel_rfl) (by kernel_rfl) (by kernel_rfl) (fun _ _ _ h => h) (by kernel_rfl) (Or.inl ⟨rfl, fun w h => (run_eq16 _ _ _ _ _ (List.replicate 16 x) (List.replicate 16 x) (by simp) (by simp) rfl rfl rfl).trans (by simp)⟩) (⟨K5.out, HA.out.1.1.keep K5.out.1, HB.out.1.1.keep K5.out.1⟩) ?_
      simp only [Act.put, List.setIfInBounds_toArray, List.set_cons_zero, List.set_cons_succ]
      refine wpAnyT_take (i := 23) (oi := ⟨some 112, _, _, _, _, _⟩) (v := .bool true) rfl (by kernel_rfl) (by kernel_rfl) (by kernel_rfl) (fun _ _ _ h => h) (by kernel_rfl) (Or.inl ⟨rfl, fun w h => by kernel_rfl⟩) (⟨K5.out, HA.out.1.1.keep K5.out.1, HB.out.1.1.keep K5.out.1⟩) ?_
      simp only [Act.put, List.setIfInBounds_toArray, List.set_cons_zero, List.set_cons_succ]
      refine wpAnyT_take (i := 24) (oi := ⟨some 113, _, _, _, _, _⟩) (v := .bool true) rfl (by kernel_rfl) (by kernel_rfl) (by kernel_rfl) (fun _ _ _ h => h) (by kernel_rfl) (Or.inl ⟨rfl, fun w h => by kernel_rfl⟩) (⟨K5.out, HA.out.1.1.keep K5.out.1, HB.out.1.1.keep K5.out.1⟩) ?_
      simp only [Act.put, List.setIfInBounds_toArray, List.set_cons_zero, List.set_cons_succ]
      refine wpAnyT_take (i := 25) (oi := ⟨some 114, _, _, _, _, _⟩) (v := .pointer (some ⟨lv, 0, none⟩)) rfl (by kernel_rfl) (by kernel_rfl) (by kernel_rfl) (fun _ _ _ h => h) (by kernel_rfl) (Or.inl ⟨rfl, fun w h => by kernel_rfl⟩) (⟨K5.out, HA.out.1.1.keep K5.out.1, HB.out.1.1.keep K5.out.1⟩) ?_
      simp only [Act.put, List.setIfInBounds_toArray, List.set_cons_zero, List.set_cons_succ]
      refine wpAnyT_one (i := 26) (by kernel_rfl) ?_
      refine op_call (o := ⟨some 115, _, _, _, _, _⟩) 13 #[.pointer (some ⟨lv, 0, none⟩)] rfl rfl (by kernel_rfl) ((bytes_any (v := undef) K5.out.2.2.1 K5.out.2.2.2.1 (by have := K5.out.2.2.2.2.1; omega)).mono fun e X6 h => ?_)
      obtain ⟨ur, he, hb, ho⟩ := h
      have bb : Below X5.heap.size X5 X6 := hb
      obtain ⟨wr, zr, eu⟩ := ho.slice
      subst eu
      have K6 : Hid (Below w.heap.size w X6 ∧ LG X6 b gs gm 20 0 8 lu 2 (List.replicate 16 x) (([] ++ za) ++ zb) vu cu ∧ LG X6 b gs gm 20 10 8 lv 2 (List.replicate 16 x1) [] vv cv) := Lib.hid ⟨K5.out.1.trans (bb.mono K5.out.1.size), K5.out.2.1.below bb, K5.out.2.2.below bb⟩
      have Rr : Hid (Row X6 wr [].length []) := Lib.hid ho.row.1
      refine ⟨.slice wr [].length zr, he, fun _ => ⟨K6.out, HA.out.1.1.keep K6.out.1, HB.out.1.1.keep K6.out.1⟩, ?_⟩
      simp only [Act.put, List.setIfInBounds_toArray, List.set_cons_zero, List.set_cons_succ]
      clear he hb ho bb
      refine wpAnyT_take (i := 27) (oi := ⟨some 116, _, _, _, _, _⟩) (v := .int .i64 0) rfl (by kernel_rfl) (by kernel_rfl) (by kernel_rfl) (fun _ _ _ h => h) (by kernel_rfl) (Or.inl ⟨rfl, fun w h => by kernel_rfl⟩) (⟨K6.out, HA.out.1.1.keep K6.out.1, HB.out.1.1.keep K6.out.1⟩) ?_
      simp only [Act.put, List.setIfInBounds_toArray, List.set_cons_zero, List.set_cons_succ]
      refine wpAnyT_take (i := 28) (oi := ⟨some 117, _, _, _, _, _⟩) (v := .bool true) rfl (by kernel_rfl) (by kernel_rfl) (by kernel_rfl) (fun _ _ _ h => h) (by kernel_rfl) (Or.inl ⟨rfl, fun w h => by kernel_rfl⟩) (⟨K6.out, HA.out.1.1.keep K6.out.1, HB.out.1.1.keep K6.out.1⟩) ?_
      simp only [Act.put, List.setIfInBounds_toArray, List.set_cons_zero, List.set_cons_succ]
      refine wpAnyT_take (i := 29) (oi := ⟨some 118, _, _, _, _, _⟩) (v := .bool true) rfl (by kernel_rfl) (by kernel_rfl) (by kernel_rfl) (fun _ _ _ h => h) (by kernel_rfl) (Or.inl ⟨rfl, fun w h => by kernel_rfl⟩) (⟨K6.out, HA.out.1.1.keep K6.out.1, HB.out.1.1.keep K6.out.1⟩) ?_
      simp only [Act.put, List.setIfInBounds_toArray, List.set_cons_zero, List.set_cons_succ]
      refine wpAnyT_take (i := 30) (oi := ⟨some 119, _, _, _, _, _⟩) (v := .bool true) rfl (by kernel_rfl) (by kernel_rfl) (by kernel_rfl) (fun _ _ _ h => h) (by kernel_rfl) (Or.inl ⟨rfl, fun w h => by kernel_rfl⟩) (⟨K6.out, HA.out.1.1.keep K6.out.1, HB.out.1.1.keep K6.out.1⟩) ?_
      simp only [Act.put, List.setIfInBounds_toArray, List.set_cons_zero, List.set_cons_succ]
      refine wpAnyT_take (i := 31) (oi := ⟨some 120, _, _, _, _, _⟩) (v := .pointer (some ⟨lv, 0, none⟩)) rfl (by kernel_rfl) (by kernel_rfl) (by kernel_rfl) (fun _ _ _ h => h) (by kernel_rfl) (Or.inl ⟨rfl, fun w h => by kernel_rfl⟩) (⟨K6.out, HA.out.1.1.keep K6.out.1, HB.out.1.1.keep K6.out.1⟩) ?_
      simp only [Act.put, List.setIfInBounds_toArray, List.set_cons_zero, List.set_cons_succ]
      refine wpAnyT_take (i := 33) (oi := ⟨some 122, _, _, _, _, _⟩) (v := .int .u8 x) rfl (by kernel_rfl) (by kernel_rfl) (by kernel_rfl) (fun _ _ _ h => h) (by kernel_rfl) (Or.inl ⟨rfl, fun w h => by kernel_rfl⟩) (⟨K6.out, HA.out.1.1.keep K6.out.1, HB.out.1.1.keep K6.out.1⟩) ?_
      simp only [Act.put, List.setIfInBounds_toArray, List.set_cons_zero, List.set_cons_succ]
      refine wpAnyT_take (i := 34) (oi := ⟨some 123, _, _, _, _, _⟩) (v := .int .u8 x1) rfl (by kernel_rfl) (by kernel_rfl) (by kernel_rfl) (fun _ _ _ h => h) (by kernel_rfl) (Or.inl ⟨rfl, fun w h => run_addi Try.underlying5 rfl rfl rfl _ HX1.out.1⟩) (⟨K6.out, HA.out.1.1.keep K6.out.1, HB.out.1.1.keep K6.out.1⟩) ?_
      simp only [Act.put, List.setIfInBounds_toArray, List.set_cons_zero, List.set_cons_succ]
      refine wpAnyT_one (i := 32) (by kernel_rfl) ?_
      refine op_call (o := ⟨some 121, _, _, _, _, _⟩) 15 #[.pointer (some ⟨lv, 0, none⟩)] rfl rfl (by kernel_rfl) ((note_any K6.out.2.2.1).mono fun e X7 h => ?_)
      have bb : Below X6.heap.size X6 X7 := h.2
      have K7 : Hid (Below w.heap.size w X7 ∧ LG X7 b gs gm 20 0 8 lu 2 (List.replicate 16 x) (([] ++ za) ++ zb) vu cu ∧ LG X7 b gs gm 20 10 8 lv 2 (List.replicate 16 x1) [] vv cv) := Lib.hid ⟨K6.out.1.trans (bb.mono K6.out.1.size), K6.out.2.1.below bb, K6.out.2.2.below bb⟩
      refine ⟨.agg (u8l (List.replicate 16 x1)).toArray, h.1, fun _ => ⟨K7.out, HA.out.1.1.keep K7.out.1, HB.out.1.1.keep K7.out.1⟩, ?_⟩
      simp only [Act.put, List.setIfInBounds_toArray, List.set_cons_zero, List.set_cons_succ]
      clear h bb
      refine wpAnyT_one (i := 35) (by kernel_rfl) ?_
      refine op_call (o := ⟨some 124, _, _, _, _, _⟩) 12 #[.int .u8 x1] rfl rfl (by kernel_rfl) ((notef_any _ x1).mono fun e X8 h => ?_)
      have bb : Below X7.heap.size X7 X8 := h.2
      have K8 : Hid (Below w.heap.size w X8 ∧ LG X8 b gs gm 20 0 8 lu 2 (List.replicate 16 x) (([] ++ za) ++ zb) vu cu ∧ LG X8 b gs gm 20 10 8 lv 2 (List.replicate 16 x1) [] vv cv) := Lib.hid ⟨K7.out.1.trans (bb.mono K7.out.1.size), K7.out.2.1.below bb, K7.out.2.2.below bb⟩
      refine ⟨.agg (u8l (List.replicate 16 x1)).toArray, h.1, fun _ => ⟨K8.out, HA.out.1.1.keep K8.out.1, HB.out.1.1.keep K8.out.1⟩, ?_⟩
      simp only [Act.put, List.setIfInBounds_toArray, List.set_cons_zero, List.set_cons_succ]
      clear h bb
      refine wpAnyT_take (i := 36) (oi := ⟨some 125, _, _, _, _, _⟩) (v := .bool true) rfl (by kernel_rfl) (by kernel_rfl) (by kernel_rfl) (fun _ _ _ h => h) (by kernel_rfl) (Or.inl ⟨rfl, fun w h => (run_eq16 _ _ _ _ _ (List.replicate 16 x1) (List.replicate 16 x1) (by simp) (by simp) rfl rfl rfl).trans (by simp)⟩) (⟨K8.out, HA.out.1.1.keep K8.out.1, HB.out.1.1.keep K8.out.1⟩) ?_
      simp only [Act.put, List.setIfInBounds_toArray, List.set_cons_zero, List.set_cons_succ]
      refine wpAnyT_take (i := 37) (oi := ⟨some 126, _, _, _, _, _⟩) (v := .bool true) rfl (by kernel_rfl) (by kernel_rfl) (by kernel_rfl) (fun _ _ _ h => h) (by kernel_rfl) (Or.inl ⟨rfl, fun w h => by kernel_rfl⟩) (⟨K8.out, HA.out.1.1.keep K8.out.1, HB.out.1.1.keep K8.out.1⟩) ?_
      simp only [Act.put, List.setIfInBounds_toArray, List.set_cons_zero, List.set_cons_succ]
      refine wpAnyT_take (i := 38) (oi := ⟨some 127, _, _, _, _, _⟩) (v := .bool true) rfl (by kernel_rfl) (by kernel_rfl) (by kernel_rfl) (fun _ _ _ h => h) (by kernel_rfl) (Or.inl ⟨rfl, fun w h => by kernel_rfl⟩) (⟨K8.out, HA.out.1.1.keep K8.out.1, HB.out.1.1.keep K8.out.1⟩) ?_
      simp only [Act.put, List.setIfInBounds_toArray, List.set_cons_zero, List.set_cons_succ]
      refine wpAnyT_take (i := 39) (oi := ⟨some 128, _, _, _, _, _⟩) (v := .pointer (some ⟨lv, 0, none⟩)) rfl (by kernel_rfl) (by kernel_rfl) (by kernel_rfl) (fun _ _ _ h => h) (by kernel_rfl) (Or.inl ⟨rfl, fun w h => by kernel_rfl⟩) (⟨K8.out, HA.out.1.1.keep K8.out.1, HB.out.1.1.keep K8.out.1⟩) ?_
      simp only [Act.put, List.setIfInBounds_toArray, List.set_cons_zero, List.set_cons_succ]
      refine wpAnyT_one (i := 40) (by kernel_rfl) ?_
      refine op_call (o := ⟨some 129, _, _, _, _, _⟩) 14 #[.pointer (some ⟨lv, 0, none⟩)] rfl rfl (by kernel_rfl) ((ser_any K8.out.2.2.1).mono fun e X9 h => ?_)
      have bb : Below X8.heap.size X8 X9 := h.2
      have K9 : Hid (Below w.heap.size w X9 ∧ LG X9 b gs gm 20 0 8 lu 2 (List.replicate 16 x) (([] ++ za) ++ zb) vu cu ∧ LG X9 b gs gm 20 10 8 lv 2 (List.replicate 16 x1) [] vv cv) := Lib.hid ⟨K8.out.1.trans (bb.mono K8.out.1.size), K8.out.2.1.below bb, K8.out.2.2.below bb⟩
      refine ⟨.int .u64 2, h.1, fun _ => ⟨K9.out, HA.out.1.1.keep K9.out.1, HB.out.1.1.keep K9.out.1⟩, ?_⟩
      simp only [Act.put, List.setIfInBounds_toArray, List.set_cons_zero, List.set_cons_succ]
      clear h bb
      refine wpAnyT_take (i := 41) (oi := ⟨some 130, _, _, _, _, _⟩) (v := .bool true) rfl (by kernel_rfl) (by kernel_rfl) (by kernel_rfl) (fun _ _ _ h => h) (by kernel_rfl) (Or.inl ⟨rfl, fun w h => by kernel_rfl⟩) (⟨K9.out, HA.out.1.1.keep K9.out.1, HB.out.1.1.keep K9.out.1⟩) ?_
      simp only [Act.put, List.setIfInBounds_toArray, List.set_cons_zero, List.set_cons_succ]
      refine wpAnyT_take (i := 42) (oi := ⟨some 131, _, _, _, _, _⟩) (v := .bool true) rfl (by kernel_rfl) (by kernel_rfl) (by kernel_rfl) (fun _ _ _ h => h) (by kernel_rfl) (Or.inl ⟨rfl, fun w h => by kernel_rfl⟩) (⟨K9.out, HA.out.1.1.keep K9.out.1, HB.out.1.1.keep K9.out.1⟩) ?_
      simp only [Act.put, List.setIfInBounds_toArray, List.set_cons_zero, List.set_cons_succ]
      refine wpAnyT_take (i := 43) (oi := ⟨some 132, _, _, _, _, _⟩) (v := .bool true) rfl (by kernel_rfl) (by kernel_rfl) (by kernel_rfl) (fun _ _ _ h => h) (by kernel_rfl) (Or.inl ⟨rfl, fun w h => by kernel_rfl⟩) (⟨K9.out, HA.out.1.1.keep K9.out.1, HB.out.1.1.keep K9.out.1⟩) ?_
      simp only [Act.put, List.setIfInBounds_toArray, List.set_cons_zero, List.set_cons_succ]
      refine wpAnyT_take (i := 44) (oi := ⟨some 133, _, _, _, _, _⟩) (v := .pointer (some ⟨lu, 0, none⟩)) rfl (by kernel_rfl) (by kernel_rfl) (by kernel_rfl) (fun _ _ _ h => h) (by kernel_rfl) (Or.inl ⟨rfl, fun w h => by kernel_rfl⟩) (⟨K9.out, HA.out.1.1.keep K9.out.1, HB.out.1.1.keep K9.out.1⟩) ?_
      simp only [Act.put, List.setIfInBounds_toArray, List.set_cons_zero, List.set_cons_succ]
      refine wpAnyT_one (i := 45) (by kernel_rfl) ?_
      refine op_call (o := ⟨some 134, _, _, _, _, _⟩) 14 #[.pointer (some ⟨lu, 0, none⟩)] rfl rfl (by kernel_rfl) ((ser_any K9.out.2.1.1).mono fun e X10 h => ?_)
      have bb : Below X9.heap.size X9 X10 := h.2
      have K10 : Hid (Below w.heap.size w X10 ∧ LG X10 b gs gm 20 0 8 lu 2 (List.replicate 16 x) (([] ++ za) ++ zb) vu cu ∧ LG X10 b gs gm 20 10 8 lv 2 (List.replicate 16 x1) [] vv cv) := Lib.hid ⟨K9.out.1.trans (bb.mono K9.out.1.size), K9.out.2.1.below bb, K9.out.2.2.below bb⟩
      refine ⟨.int .u64 2, h.1, fun _ => ⟨K10.out, HA.out.1.1.keep K10.out.1, HB.out.1.1.keep K10.out.1⟩, ?_⟩
      simp only [Act.put, List.setIfInBounds_toArray, List.set_cons_zero, List.set_cons_succ]
      clear h bb
      refine wpAnyT_take (i := 46) (oi := ⟨some 135, _, _, _, _, _⟩) (v := .bool true) rfl (by kernel_rfl) (by kernel_rfl) (by kernel_rfl) (fun _ _ _ h => h) (by kernel_rfl) (Or.inl ⟨rfl, fun w h => by kernel_rfl⟩) (⟨K10.out, HA.out.1.1.keep K10.out.1, HB.out.1.1.keep K10.out.1⟩) ?_
      simp only [Act.put, List.setIfInBounds_toArray, List.set_cons_zero, List.set_cons_succ]
      refine wpAnyT_take (i := 47) (oi := ⟨some 136, _, _, _, _, _⟩) (v := .bool true) rfl (by kernel_rfl) (by kernel_rfl) (by kernel_rfl) (fun _ _ _ h => h) (by kernel_rfl) (Or.inl ⟨rfl, fun w h => by kernel_rfl⟩) (⟨K10.out, HA.out.1.1.keep K10.out.1, HB.out.1.1.keep K10.out.1⟩) ?_
      simp only [Act.put, List.setIfInBounds_toArray, List.set_cons_zero, List.set_cons_succ]
      refine wpAnyT_take (i := 48) (oi := ⟨some 6, _, _, _, _, _⟩) (v := .bool true) rfl (by kernel_rfl) (by kernel_rfl) (by kernel_rfl) (fun _ _ _ h => h) (by kernel_rfl) (Or.inl ⟨rfl, fun w h => by kernel_rfl⟩) (⟨K10.out, HA.out.1.1.keep K10.out.1, HB.out.1.1.keep K10.out.1⟩) ?_
      simp only [Act.put, List.setIfInBounds_toArray, List.set_cons_zero, List.set_cons_succ]
      refine wpAnyT_done (by kernel_rfl) ?_ _
      go_wp2_with fail
      go_ret
      exact ⟨rfl, K10.out.1⟩
end Go.Proofs.Yteabblmhcjpboaa.D
namespace Go.Proofs.Yteabblmhcjpboaa
open Go Go.RowKit
theorem walkCellsApart (aa : Option Addr) (na ca : Nat) (za : List Int) (ab : Option Addr) (nb cb : Nat) (zb : List Int) (x : Int) (hx : (Lit.int .u8 x).wf = true) (w : World) (ha : IsRow .u8 w aa na ca za) (hb : IsRow .u8 w ab nb cb zb) :
    Calls Try.prog 7 #[.slice aa na ca, .slice ab nb cb, .int .u8 x] w fun e w' => e = .returned (.bool true) ∧ Below w.heap.size w w' :=
  D.apart_any w aa ab na nb ca cb _ _ x (bounds_u8 hx) (D.sl_of ha) (D.sl_of hb)
end Go.Proofs.Yteabblmhcjpboaa
