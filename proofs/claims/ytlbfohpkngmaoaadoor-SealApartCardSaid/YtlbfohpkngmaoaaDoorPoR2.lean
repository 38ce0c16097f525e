/- The reference: bytes, add. -/
import Derived.Test.YtlbfohpkngmaoaaDoorPoQR
import Derived.Test.YtlbfohpkngmaoaaDoorPoB
namespace Go.Proofs.YtlbfohpkngmaoaaDoor.Po
open Go Go.RowKit
theorem rquo256 (a : Act) (o : Oper) (w : World) (x : Operand) (p q : Nat) (ho : o.op = .binOp .quo 3 x (.const (.int .i64 256)) 3) (hx : a.eval x = .int .i64 (p : Int)) (hq : p / 256 = q) (hp : p < 100000000000000) : (execOp a.eval o).run Tryd.prog w = .ok (.value (.int .i64 (q : Int))) w := by
 have u := run_underlying Tryd.underlying3 w
 have hc : ∀ v, a.eval (.const v) = v := fun _ => rfl
 subst hq
 unfold execOp
 simp only [ho, hx, hc]
 go_simp
 simp [Int.tdiv_eq_ediv_of_nonneg, IntKind.wrap, IntKind.bits, IntKind.signed]
 try omega
theorem run_rem256 (a : Act) (o : Oper) (w : World) (x : Operand) (p q : Nat) (ho : o.op = .binOp .rem 3 x (.const (.int .i64 256)) 3) (hx : a.eval x = .int .i64 (p : Int)) (hq : p % 256 = q) (hp : p < 100000000000000) : (execOp a.eval o).run Tryd.prog w = .ok (.value (.int .i64 (q : Int))) w := by
 have u := run_underlying Tryd.underlying3 w
 have hc : ∀ v, a.eval (.const v) = v := fun _ => rfl
 subst hq
 unfold execOp
 simp only [ho, hx, hc]
 go_simp
 simp [Int.tmod_eq_emod_of_nonneg, IntKind.wrap, IntKind.bits, IntKind.signed]
 try omega
def ni (l : List Nat) : List Int := l.map fun (x : Nat) => (x : Int)
theorem ni_len (l : List Nat) : (ni l).length = l.length := by simp [ni]
theorem ni_getD (l : List Nat) (j : Nat) : (ni l).getD j 0 = ((l.getD j 0 : Nat) : Int) := by
 simp only [ni, List.getD, List.getElem?_map]
 cases l[j]? <;> rfl
theorem ni_cell {w : World} {a : Option Addr} {n : Nat} {xs : List Nat} (h : I.Row w a n (ni xs)) {j : Nat} (hj : j < n) : ∃ g o, a = some ⟨g, o, none⟩ ∧ w.cell? ⟨g, o + j, none⟩ = some (.int .i64 ((xs.getD j 0 : Nat) : Int)) := by
 obtain ⟨g, o, e, hc⟩ := h.2.2.2 j hj
 exact ⟨g, o, e, by rw [hc, ni_getD]⟩
theorem gb_own {w w' : World} {B : Nat} {v : Value} {xs : List Int} (h : I.Own w B v xs) (hg : w.grownBy w' v.ownBlock) (hB : B ≤ w.heap.size) : Below B w w' :=
 ⟨hg.os, hg.tape, hg.output, hg.size, fun k hk => hg.block k (by omega) (fun e => by have := h.lt k e.symm; omega)⟩
def IPSt (w W : World) (v : Value) (xs : List Nat) : Prop := I.Own W w.heap.size v (ni xs) ∧ Below w.heap.size w W
theorem IPSt.nil (w : World) : IPSt w w (.slice none 0 0) [] := ⟨I.Own.nil _ _, Below.refl _ _⟩
theorem IPSt.push {w W : World} {v : Value} {xs : List Nat} (h : IPSt w W v xs) (y : Nat) (hn : xs.length ≤ 1000000) (W1 : World) (hW : W1 = W.alloc (.cells #[.int .i64 ((y : Nat) : Int)] 3)) :
  ∃ v2 W2, (Builtin.append_ #[108, 108] 108 #[v, .slice (some ⟨W.heap.size, 0, none⟩) 1 1]).run Tryd.prog W1 = .ok v2 W2 ∧ IPSt w W2 v2 (xs ++ [y]) := by
 subst hW
 have hs := h.2.size
 have hsz : (W.alloc (.cells #[.int .i64 ((y : Nat) : Int)] 3)).heap.size = W.heap.size + 1 := by simp
 have o1 := h.1.alloc (.cells #[.int .i64 ((y : Nat) : Int)] 3)
 have hr : I.Row (W.alloc (.cells #[.int .i64 ((y : Nat) : Int)] 3)) (some ⟨W.heap.size, 0, none⟩) 1 [((y : Nat) : Int)] := ⟨rfl, by unfold maxLen; omega, trivial, fun j hj => by
  obtain rfl : j = 0 := by omega
  exact ⟨_, _, rfl, by rw [(Blk.new W 3 #[.int .i64 ((y : Nat) : Int)]).cell]; rfl⟩⟩
 obtain ⟨v2, W2, r1, r2, r3, r4, r5⟩ := I.append_own (W.alloc (.cells #[.int .i64 ((y : Nat) : Int)] 3)) w.heap.size v (ni xs) [((y : Nat) : Int)] (some ⟨W.heap.size, 0, none⟩) 1 1 o1 hr (by rw [ni_len]; omega) (by rw [hsz]; omega)
 exact ⟨v2, W2, r1, by rw [show ni (xs ++ [y]) = ni xs ++ [((y : Nat) : Int)] by simp [ni]]; exact r2, (h.2.alloc hs _).trans (gb_own o1 r3 (by rw [hsz]; omega))⟩
def AInv (w : World) (xs ys : List Nat) (i cr : Nat) (v : Value) (wr : World) : Prop :=
 ∃ zs : List Nat, IPSt w wr v zs ∧ zs.length = i ∧ (∀ z ∈ zs, z < 256) ∧ cr ≤ 1 ∧ vd zs + 256 ^ i * cr = vd (xs.take i) + vd (ys.take i) ∧ (i ≤ xs.length ∨ i ≤ ys.length ∨ (cr = 0 ∧ i ≤ max xs.length ys.length + 1))
theorem AInv.start (w : World) (xs ys : List Nat) : AInv w xs ys 0 0 (.slice none 0 0) w := ⟨[], IPSt.nil w, rfl, by simp, by omega, by simp [vd], .inl (by omega)⟩
theorem AInv.pst {w wr : World} {xs ys : List Nat} {i cr : Nat} {v : Value} (h : AInv w xs ys i cr v wr) : IPSt w wr v h.choose := h.choose_spec.1
theorem AInv.below {w wr : World} {xs ys : List Nat} {i cr : Nat} {v : Value} (h : AInv w xs ys i cr v wr) : Below w.heap.size w wr := h.pst.2
theorem AInv.carry {w wr : World} {xs ys : List Nat} {i cr : Nat} {v : Value} (h : AInv w xs ys i cr v wr) : cr ≤ 1 := h.choose_spec.2.2.2.1
theorem AInv.len {w wr : World} {xs ys : List Nat} {i cr : Nat} {v : Value} (h : AInv w xs ys i cr v wr) : h.choose.length = i := h.choose_spec.2.1
theorem AInv.idx {w wr : World} {xs ys : List Nat} {i cr : Nat} {v : Value} (h : AInv w xs ys i cr v wr) : i ≤ xs.length + ys.length + 1 := by
 have := h.choose_spec.2.2.2.2.2
 omega
theorem AInv.step {w wr : World} {xs ys : List Nat} {i cr xa yb sm : Nat} {v v2 : Value} {w2 : World} (h : AInv w xs ys i cr v wr) {hxa : xs.getD i 0 = xa} {hyb : ys.getD i 0 = yb} (hsm : cr + xa + yb = sm) (hx : ∀ x ∈ xs, x < 256) (hy : ∀ y ∈ ys, y < 256)
  (hd : i < xs.length ∨ i < ys.length ∨ 0 < cr) (hp : IPSt w w2 v2 (h.choose ++ [sm % 256])) : AInv w xs ys (i + 1) (sm / 256) v2 w2 := by
 obtain ⟨p1, p2, p3, p4, p5, p6⟩ := h.choose_spec
 have h1 := getD_lt hx i
 have h2 := getD_lt hy i
 subst hxa
 subst hyb
 refine ⟨_, hp, by simp [p2], fun z hz => ?_, by omega, add_step p2 p5 hsm, ?_⟩
 ·rcases List.mem_append.1 hz with hz | hz
  ·exact p3 z hz
  ·simp at hz; omega
 ·rcases hd with hd | hd | hd
  ·left; omega
  ·right; left; omega
  ·by_cases e1 : i < xs.length
   ·left; omega
   ·by_cases e2 : i < ys.length
    ·right; left; omega
    ·have z1 : xs.getD i 0 = 0 := by rw [List.getD, List.getElem?_eq_none (by omega)]; rfl
     have z2 : ys.getD i 0 = 0 := by rw [List.getD, List.getElem?_eq_none (by omega)]; rfl
     right; right
     omega
theorem AInv.done {w wr : World} {xs ys : List Nat} {i cr : Nat} {v : Value} (h : AInv w xs ys i cr v wr) (hx : ∀ x ∈ xs, x < 256) (hy : ∀ y ∈ ys, y < 256) (h1 : xs.length ≤ i) (h2 : ys.length ≤ i) (h3 : cr = 0) :
  (∀ z ∈ h.choose, z < 256) ∧ vd h.choose = vd xs + vd ys ∧ xs.length ≤ h.choose.length ∧ ys.length ≤ h.choose.length ∧ h.choose.length ≤ max xs.length ys.length + 1 := by
 obtain ⟨p1, p2, p3, p4, p5, p6⟩ := h.choose_spec
 generalize h.choose = zs at p1 p2 p3 p5 ⊢
 subst h3
 rw [List.take_of_length_le h1, List.take_of_length_le h2, Nat.mul_zero, Nat.add_zero] at p5
 exact ⟨p3, p5, by omega, by omega, by omega⟩
attribute [local irreducible] wpList
set_option maxRecDepth 100000 in
set_option maxHeartbeats 4000000 in
theorem refbytes_any (w : World) (a : Option Addr) (n c : Nat) (xs : List Int) (h : Row w a n xs) (hn : n ≤ 1000) :
  Calls Tryd.prog 44 #[.slice a n c] w fun e w' => ∃ v, e = .returned v ∧ IPSt w w' v (xs.map Int.toNat) := by
 have HR := Lib.hid h
 have HN := Lib.hid hn
 clear h hn
 go_enter Tryd.func44, Tryd.ntmps44
 go_upto_region 0 with (fail)
 refine wp_region_lit ?_
 refine zP (.slice none 0 0) ?_
 go_upto_region 1 with (fail)
 refine wp_region_lit ?_
 refine zP (.slice none 0 0) ?_
 go_upto_region 2 with (fail)
 refine wp_region_lit ?_
 refine zP (.int .i64 0) ?_
 go_wp2_with fail
 go_loopw [3, 4] (fun s3 s4 wr => ∃ (k : Nat) (v : Value), v = s3 ∧ s4 = .int .i64 ((k : Nat) : Int) ∧ Hid (k ≤ n ∧ IPSt w wr v ((xs.take k).map Int.toNat))) (fun _ s4 _ => n - (intOf s4).toNat)
 case atStart => exact ⟨0, _, rfl, rfl, Lib.hid ⟨by omega, IPSt.nil w⟩⟩
 case round =>
  obtain ⟨k, v, rfl, rfl, RI⟩ := hrel
  by_cases hlt : k < n
  ·have HK := Lib.hid hlt
   clear hlt
   obtain ⟨g, o, ea, hc⟩ := (HR.out.keep RI.out.2.2).2.2.2 k HK.out
   obtain ⟨y, hy⟩ : ∃ y : Nat, (xs.getD k 0).toNat = y := ⟨_, rfl⟩
   have EA := Lib.hid ea
   have HC : Hid (wr.cell? ⟨g, o + k, none⟩ = some (.int .u8 ((y : Nat) : Int))) := Lib.hid (by rw [hc, ← hy]; have := getD_byte HR.out.2.2.1 k; congr 2; omega)
   have EX : Hid ((xs.take (k + 1)).map Int.toNat = (xs.take k).map Int.toNat ++ [y]) := Lib.hid (by rw [getD_take xs 0 (by rw [HR.out.1]; exact HK.out), List.map_append, ← hy]; rfl)
   have YL : Hid (y < 256) := Lib.hid (by rw [← hy]; have := getD_byte HR.out.2.2.1 k; omega)
   clear ea hc hy
   go_upto_region 3 with (fail)
   refine wp_region_lit ?_
   refine zP (.int .i64 ((k : Nat) : Int)) ?_
   refine zP (.slice a n c) ?_
   refine zP (.int .i64 (n : Int)) ?_
   refine zQ (.bool true) (run_lti Tryd.underlying3 rfl rfl rfl (by have := HK.out; rw [decide_eq_true_eq]; omega)) ?_
   obtain ⟨q1, hq1⟩ : ∃ V, V = wr.alloc (.cells #[.int .i64 ((y : Nat) : Int)] 3) := ⟨_, rfl⟩
   obtain ⟨qv, q2, r1, r2⟩ := (RI.out.2).push _ (by rw [List.length_map, List.length_take]; have := HN.out; have := HK.out; omega) q1 hq1
   have Aq := Lib.hid r1
   have Pq := Lib.hid r2
   have Hq := Lib.hid hq1
   clear r1 r2 hq1
   go_upto_region 5 with (fail)
   refine wp_region_lit ?_
   refine zP (v) ?_
   refine zP (.slice a n c) ?_
   refine zP (.int .i64 ((k : Nat) : Int)) ?_
   refine zQ (.pointer (some ⟨g, o + k, none⟩)) (run_idx _ _ _ _ _ g o n c k rfl (by rw [EA.out]; rfl) rfl HK.out HR.out.2.1) ?_
   refine zQ (.int .u8 ((y : Nat) : Int)) (run_load_one _ _ _ 5 _ _ rfl (g) (o + k) rfl (HC.out) (by kernel_rfl)) ?_
   refine zQ (.int .i64 ((y : Nat) : Int)) (run_convi Tryd.underlying5 Tryd.underlying3 rfl rfl _ (by have := YL.out; rw [wrap_in _ (by omega) (by omega)])) ?_
   refine zV (.slice (some ⟨wr.heap.size, 0, none⟩) 1 1) (q1) (by rw [Hq.out]; kernel_rfl) ?_
   clear Hq
   refine zV (qv) (q2) (I.run_app _ _ _ _ _ _ _ _ _ rfl rfl rfl rfl Aq.out) ?_
   clear Aq
   refine zP (qv) ?_
   go_upto_region 4 with (fail)
   refine wp_region_lit ?_
   refine zP (.int .i64 ((k : Nat) : Int)) ?_
   refine zQ (.int .i64 ((k + 1 : Nat) : Int)) (run_addi Tryd.underlying3 rfl rfl rfl _ (by have := HK.out; have := HN.out; rw [wrap_in _ (by omega) (by omega)]; omega)) ?_
   refine zP (.int .i64 ((k + 1 : Nat) : Int)) ?_
   have NX : Hid (k + 1 ≤ n ∧ IPSt w q2 qv ((xs.take (k + 1)).map Int.toNat)) := Lib.hid ⟨HK.out, by rw [EX.out]; exact Pq.out⟩
   unfold wpList
   go_roundw
   case rel => first | exact ⟨k + 1, _, rfl, rfl, NX⟩ | ((repeat apply Exists.intro); exact ⟨⟨k + 1, _, rfl, rfl, NX⟩, rfl⟩)
   case measure => simp [intOf]; have := HK.out; omega
  ·have HK := Lib.hid hlt
   have EK : Hid (k = n) := Lib.hid (by have := RI.out.1; omega)
   clear hlt
   go_upto_region 3 with (fail)
   refine wp_region_lit ?_
   refine zP (.int .i64 ((k : Nat) : Int)) ?_
   refine zP (.slice a n c) ?_
   refine zP (.int .i64 (n : Int)) ?_
   refine zQ (.bool false) (run_lti Tryd.underlying3 rfl rfl rfl (by have := HK.out; rw [decide_eq_false_iff_not]; omega)) ?_
   go_upto_region 6 with (fail)
   refine wp_region_lit ?_
   refine zP (v) ?_
   refine zP (v) ?_
   go_wp2_with fail
   go_ret
   exact ⟨_, rfl, by have h := RI.out.2; rw [EK.out, List.take_of_length_le (by rw [HR.out.1]; omega)] at h; exact h⟩
set_option maxRecDepth 100000 in
set_option maxHeartbeats 8000000 in
theorem refadd_any (w : World) (a b : Option Addr) (la ca lb cb : Nat) (xs ys : List Nat) (hx : I.Row w a la (ni xs)) (hy : I.Row w b lb (ni ys)) (dx : ∀ x ∈ xs, x < 256) (dy : ∀ y ∈ ys, y < 256) (hl : la ≤ 1000 ∧ lb ≤ 1000) :
  Calls Tryd.prog 47 #[.slice a la ca, .slice b lb cb] w fun e w' => ∃ v zs, e = .returned v ∧ IPSt w w' v zs ∧ (∀ z ∈ zs, z < 256) ∧ vd zs = vd xs + vd ys ∧ xs.length ≤ zs.length ∧ ys.length ≤ zs.length ∧ zs.length ≤ max xs.length ys.length + 1 := by
 have HX := Lib.hid hx
 have HY := Lib.hid hy
 have DX := Lib.hid dx
 have DY := Lib.hid dy
 have LN := Lib.hid hl
 have LX : Hid (xs.length = la) := Lib.hid (by rw [← ni_len]; exact hx.1)
 have LY : Hid (ys.length = lb) := Lib.hid (by rw [← ni_len]; exact hy.1)
 clear hx hy dx dy hl
 go_enter Tryd.func47, Tryd.ntmps47
 go_upto_region 0 with (fail)
 refine wp_region_lit ?_
 refine zP (.slice none 0 0) ?_
 go_upto_region 1 with (fail)
 refine wp_region_lit ?_
 refine zP (.slice none 0 0) ?_
 go_upto_region 2 with (fail)
 refine wp_region_lit ?_
 refine zP (.int .i64 0) ?_
 go_upto_region 3 with (fail)
 refine wp_region_lit ?_
 refine zP (.int .i64 0) ?_
 go_wp2_with fail
 go_loopw [5, 6, 7] (fun s5 s6 s7 wr => ∃ (i cr : Nat) (v : Value), v = s5 ∧ s6 = .int .i64 ((cr : Nat) : Int) ∧ s7 = .int .i64 ((i : Nat) : Int) ∧ Hid (AInv w xs ys i cr v wr)) (fun _ _ s7 _ => xs.length + ys.length + 2 - (intOf s7).toNat)
 case atStart => exact ⟨0, 0, _, rfl, rfl, rfl, Lib.hid (AInv.start w xs ys)⟩
 case round =>
  obtain ⟨i, cr, v, rfl, rfl, rfl, RI⟩ := hrel
  by_cases ha : i < la
  ·have HA := Lib.hid ha
   clear ha
   by_cases hb : i < lb
   ·have HB := Lib.hid hb
    clear hb
    obtain ⟨g1, o1, ea, hca⟩ := ni_cell (HX.out.keep RI.out.below) HA.out
    have EA := Lib.hid ea
    have CA := Lib.hid hca
    clear ea hca
    obtain ⟨g2, o2, eb, hcb⟩ := ni_cell (HY.out.keep RI.out.below) HB.out
    have EB := Lib.hid eb
    have CB := Lib.hid hcb
    clear eb hcb
    obtain ⟨xa, hxa⟩ : ∃ q, xs.getD i 0 = q := ⟨_, rfl⟩
    obtain ⟨yb, hyb⟩ : ∃ q, ys.getD i 0 = q := ⟨_, rfl⟩
    rw [hxa] at CA
    rw [hyb] at CB
    have BD : Hid (cr ≤ 1 ∧ xa < 256 ∧ yb < 256) := Lib.hid ⟨RI.out.carry, by rw [← hxa]; exact getD_lt DX.out i, by rw [← hyb]; exact getD_lt DY.out i⟩
    obtain ⟨sm, hsm⟩ : ∃ q, cr + xa + yb = q := ⟨_, rfl⟩
    have NV := Lib.hid (fun v2 w2 => RI.out.step (v2 := v2) (w2 := w2) (hxa := hxa) (hyb := hyb) hsm DX.out DY.out (.inl (by have := HA.out; have := LX.out; omega)))
    have SM := Lib.hid hsm
    clear hxa hyb hsm
    go_upto_region 4 with (fail)
    refine wp_region_lit ?_
    refine zP (.int .i64 ((i : Nat) : Int)) ?_
    refine zP (.slice a la ca) ?_
    refine zP (.int .i64 (la : Int)) ?_
    refine zQ (.bool true) (run_lti Tryd.underlying3 rfl rfl rfl (by have := HA.out; rw [decide_eq_true_eq]; omega)) ?_
    refine zP (.bool true) ?_
    refine wpL_skip (by kernel_rfl) ?_
    simp only [Act.put, List.setIfInBounds_toArray, List.set_cons_zero, List.set_cons_succ]
    refine wpL_skip (by kernel_rfl) ?_
    simp only [Act.put, List.setIfInBounds_toArray, List.set_cons_zero, List.set_cons_succ]
    refine wpL_skip (by kernel_rfl) ?_
    simp only [Act.put, List.setIfInBounds_toArray, List.set_cons_zero, List.set_cons_succ]
    refine wpL_skip (by kernel_rfl) ?_
    simp only [Act.put, List.setIfInBounds_toArray, List.set_cons_zero, List.set_cons_succ]
    refine zP (.bool true) ?_
    refine zP (.bool true) ?_
    refine wpL_skip (by kernel_rfl) ?_
    simp only [Act.put, List.setIfInBounds_toArray, List.set_cons_zero, List.set_cons_succ]
    refine wpL_skip (by kernel_rfl) ?_
    simp only [Act.put, List.setIfInBounds_toArray, List.set_cons_zero, List.set_cons_succ]
    refine zP (.bool true) ?_
    go_upto_region 6 with (fail)
    refine wp_region_lit ?_
    refine zP (.int .i64 ((i : Nat) : Int)) ?_
    refine zP (.slice a la ca) ?_
    refine zP (.int .i64 (la : Int)) ?_
    refine zQ (.bool true) (run_lti Tryd.underlying3 rfl rfl rfl (by have := HA.out; rw [decide_eq_true_eq]; omega)) ?_
    go_upto_region 7 with (fail)
    refine wp_region_lit ?_
    refine zP (.int .i64 ((cr : Nat) : Int)) ?_
    refine zP (.slice a la ca) ?_
    refine zP (.int .i64 ((i : Nat) : Int)) ?_
    refine zQ (.pointer (some ⟨g1, o1 + i, none⟩)) (I.run_idx _ _ _ _ _ g1 o1 la ca i rfl (by rw [EA.out]; rfl) rfl HA.out HX.out.2.1) ?_
    refine zQ (.int .i64 ((xa : Nat) : Int)) (run_load_one _ _ _ 3 _ _ rfl (g1) (o1 + i) rfl (CA.out) (by kernel_rfl)) ?_
    refine zQ (.int .i64 ((cr + xa : Nat) : Int)) (run_addi Tryd.underlying3 rfl rfl rfl _ (by have := BD.out; rw [wrap_in _ (by omega) (by omega)]; omega)) ?_
    refine zP (.int .i64 ((cr + xa : Nat) : Int)) ?_
    go_upto_region 8 with (fail)
    refine wp_region_lit ?_
    refine zP (.int .i64 ((i : Nat) : Int)) ?_
    refine zP (.slice b lb cb) ?_
    refine zP (.int .i64 (lb : Int)) ?_
    refine zQ (.bool true) (run_lti Tryd.underlying3 rfl rfl rfl (by have := HB.out; rw [decide_eq_true_eq]; omega)) ?_
    go_upto_region 9 with (fail)
    refine wp_region_lit ?_
    refine zP (.int .i64 ((cr + xa : Nat) : Int)) ?_
    refine zP (.slice b lb cb) ?_
    refine zP (.int .i64 ((i : Nat) : Int)) ?_
    refine zQ (.pointer (some ⟨g2, o2 + i, none⟩)) (I.run_idx _ _ _ _ _ g2 o2 lb cb i rfl (by rw [EB.out]; rfl) rfl HB.out HY.out.2.1) ?_
    refine zQ (.int .i64 ((yb : Nat) : Int)) (run_load_one _ _ _ 3 _ _ rfl (g2) (o2 + i) rfl (CB.out) (by kernel_rfl)) ?_
    refine zQ (.int .i64 ((cr + xa + yb : Nat) : Int)) (run_addi Tryd.underlying3 rfl rfl rfl _ (by have := BD.out; rw [wrap_in _ (by omega) (by omega)]; omega)) ?_
    refine zP (.int .i64 ((cr + xa + yb : Nat) : Int)) ?_
    have E6 : Hid (.int .i64 ((cr + xa + yb : Nat) : Int) = Value.int .i64 ((sm : Nat) : Int)) := Lib.hid (by congr 1; have := SM.out; omega)
    rw [E6.out]
    obtain ⟨q1, hq1⟩ : ∃ V, V = wr.alloc (.cells #[.int .i64 ((sm % 256 : Nat) : Int)] 3) := ⟨_, rfl⟩
    obtain ⟨qv, q2, r1, r2⟩ := (RI.out.pst).push _ (by have := RI.out.len; have := LN.out; have := HX.out.1; have := HY.out.1; have := RI.out.idx; have := LX.out; have := LY.out; omega) q1 hq1
    have Aq := Lib.hid r1
    have Pq := Lib.hid r2
    have Hq := Lib.hid hq1
    clear r1 r2 hq1
    go_upto_region 10 with (fail)
    refine wp_region_lit ?_
    refine zP (v) ?_
    refine zP (.int .i64 ((sm : Nat) : Int)) ?_
    refine zQ (.int .i64 ((sm % 256 : Nat) : Int)) (run_rem256 _ _ _ _ sm _ rfl rfl rfl (by have := SM.out; have := BD.out; omega)) ?_
    refine zV (.slice (some ⟨wr.heap.size, 0, none⟩) 1 1) (q1) (by rw [Hq.out]; kernel_rfl) ?_
    clear Hq
    refine zV (qv) (q2) (I.run_app _ _ _ _ _ _ _ _ _ rfl rfl rfl rfl Aq.out) ?_
    clear Aq
    refine zP (qv) ?_
    go_upto_region 11 with (fail)
    refine wp_region_lit ?_
    refine zP (.int .i64 ((sm : Nat) : Int)) ?_
    refine zQ (.int .i64 ((sm / 256 : Nat) : Int)) (rquo256 _ _ _ _ sm _ rfl rfl rfl (by have := SM.out; have := BD.out; omega)) ?_
    refine zP (.int .i64 ((sm / 256 : Nat) : Int)) ?_
    go_upto_region 5 with (fail)
    refine wp_region_lit ?_
    refine zP (.int .i64 ((i : Nat) : Int)) ?_
    refine zQ (.int .i64 ((i + 1 : Nat) : Int)) (run_addi Tryd.underlying3 rfl rfl rfl _ (by have := RI.out.idx; have := LN.out; have := LX.out; have := LY.out; rw [wrap_in _ (by omega) (by omega)]; omega)) ?_
    refine zP (.int .i64 ((i + 1 : Nat) : Int)) ?_
    have NX : Hid (AInv w xs ys (i + 1) (sm / 256) qv q2) := Lib.hid (NV.out qv q2 Pq.out)
    unfold wpList
    go_roundw
    case rel => first | exact ⟨i + 1, sm / 256, _, rfl, rfl, rfl, NX⟩ | ((repeat apply Exists.intro); exact ⟨⟨i + 1, sm / 256, _, rfl, rfl, rfl, NX⟩, rfl⟩)
    case measure => simp [intOf]; have := RI.out.idx; omega
   ·have HB := Lib.hid hb
    clear hb
    obtain ⟨g1, o1, ea, hca⟩ := ni_cell (HX.out.keep RI.out.below) HA.out
    have EA := Lib.hid ea
    have CA := Lib.hid hca
    clear ea hca
    obtain ⟨xa, hxa⟩ : ∃ q, xs.getD i 0 = q := ⟨_, rfl⟩
    obtain ⟨yb, hyb⟩ : ∃ q, ys.getD i 0 = q := ⟨_, rfl⟩
    rw [hxa] at CA
    have BD : Hid (cr ≤ 1 ∧ xa < 256 ∧ yb < 256) := Lib.hid ⟨RI.out.carry, by rw [← hxa]; exact getD_lt DX.out i, by rw [← hyb]; exact getD_lt DY.out i⟩
    obtain ⟨sm, hsm⟩ : ∃ q, cr + xa + yb = q := ⟨_, rfl⟩
    have NV := Lib.hid (fun v2 w2 => RI.out.step (v2 := v2) (w2 := w2) (hxa := hxa) (hyb := hyb) hsm DX.out DY.out (.inl (by have := HA.out; have := LX.out; omega)))
    have SM := Lib.hid hsm
    have ZB : Hid (yb = 0) := Lib.hid (by rw [← hyb, List.getD, List.getElem?_eq_none (by have := HB.out; have := LY.out; omega)]; rfl)
    clear hxa hyb hsm
    go_upto_region 4 with (fail)
    refine wp_region_lit ?_
    refine zP (.int .i64 ((i : Nat) : Int)) ?_
    refine zP (.slice a la ca) ?_
    refine zP (.int .i64 (la : Int)) ?_
    refine zQ (.bool true) (run_lti Tryd.underlying3 rfl rfl rfl (by have := HA.out; rw [decide_eq_true_eq]; omega)) ?_
    refine zP (.bool true) ?_
    refine wpL_skip (by kernel_rfl) ?_
    simp only [Act.put, List.setIfInBounds_toArray, List.set_cons_zero, List.set_cons_succ]
    refine wpL_skip (by kernel_rfl) ?_
    simp only [Act.put, List.setIfInBounds_toArray, List.set_cons_zero, List.set_cons_succ]
    refine wpL_skip (by kernel_rfl) ?_
    simp only [Act.put, List.setIfInBounds_toArray, List.set_cons_zero, List.set_cons_succ]
    refine wpL_skip (by kernel_rfl) ?_
    simp only [Act.put, List.setIfInBounds_toArray, List.set_cons_zero, List.set_cons_succ]
    refine zP (.bool true) ?_
    refine zP (.bool true) ?_
    refine wpL_skip (by kernel_rfl) ?_
    simp only [Act.put, List.setIfInBounds_toArray, List.set_cons_zero, List.set_cons_succ]
    refine wpL_skip (by kernel_rfl) ?_
    simp only [Act.put, List.setIfInBounds_toArray, List.set_cons_zero, List.set_cons_succ]
    refine zP (.bool true) ?_
    go_upto_region 6 with (fail)
    refine wp_region_lit ?_
    refine zP (.int .i64 ((i : Nat) : Int)) ?_
    refine zP (.slice a la ca) ?_
    refine zP (.int .i64 (la : Int)) ?_
    refine zQ (.bool true) (run_lti Tryd.underlying3 rfl rfl rfl (by have := HA.out; rw [decide_eq_true_eq]; omega)) ?_
    go_upto_region 7 with (fail)
    refine wp_region_lit ?_
    refine zP (.int .i64 ((cr : Nat) : Int)) ?_
    refine zP (.slice a la ca) ?_
    refine zP (.int .i64 ((i : Nat) : Int)) ?_
    refine zQ (.pointer (some ⟨g1, o1 + i, none⟩)) (I.run_idx _ _ _ _ _ g1 o1 la ca i rfl (by rw [EA.out]; rfl) rfl HA.out HX.out.2.1) ?_
    refine zQ (.int .i64 ((xa : Nat) : Int)) (run_load_one _ _ _ 3 _ _ rfl (g1) (o1 + i) rfl (CA.out) (by kernel_rfl)) ?_
    refine zQ (.int .i64 ((cr + xa : Nat) : Int)) (run_addi Tryd.underlying3 rfl rfl rfl _ (by have := BD.out; rw [wrap_in _ (by omega) (by omega)]; omega)) ?_
    refine zP (.int .i64 ((cr + xa : Nat) : Int)) ?_
    go_upto_region 8 with (fail)
    refine wp_region_lit ?_
    refine zP (.int .i64 ((i : Nat) : Int)) ?_
    refine zP (.slice b lb cb) ?_
    refine zP (.int .i64 (lb : Int)) ?_
    refine zQ (.bool false) (run_lti Tryd.underlying3 rfl rfl rfl (by have := HB.out; rw [decide_eq_false_iff_not]; omega)) ?_
    have E6 : Hid (.int .i64 ((cr + xa : Nat) : Int) = Value.int .i64 ((sm : Nat) : Int)) := Lib.hid (by congr 1; have := SM.out; have := ZB.out; omega)
    rw [E6.out]
    obtain ⟨q1, hq1⟩ : ∃ V, V = wr.alloc (.cells #[.int .i64 ((sm % 256 : Nat) : Int)] 3) := ⟨_, rfl⟩
    obtain ⟨qv, q2, r1, r2⟩ := (RI.out.pst).push _ (by have := RI.out.len; have := LN.out; have := HX.out.1; have := HY.out.1; have := RI.out.idx; have := LX.out; have := LY.out; omega) q1 hq1
    have Aq := Lib.hid r1
    have Pq := Lib.hid r2
    have Hq := Lib.hid hq1
    clear r1 r2 hq1
    go_upto_region 10 with (fail)
    refine wp_region_lit ?_
    refine zP (v) ?_
    refine zP (.int .i64 ((sm : Nat) : Int)) ?_
    refine zQ (.int .i64 ((sm % 256 : Nat) : Int)) (run_rem256 _ _ _ _ sm _ rfl rfl rfl (by have := SM.out; have := BD.out; omega)) ?_
    refine zV (.slice (some ⟨wr.heap.size, 0, none⟩) 1 1) (q1) (by rw [Hq.out]; kernel_rfl) ?_
    clear Hq
    refine zV (qv) (q2) (I.run_app _ _ _ _ _ _ _ _ _ rfl rfl rfl rfl Aq.out) ?_
    clear Aq
    refine zP (qv) ?_
    go_upto_region 11 with (fail)
    refine wp_region_lit ?_
    refine zP (.int .i64 ((sm : Nat) : Int)) ?_
    refine zQ (.int .i64 ((sm / 256 : Nat) : Int)) (rquo256 _ _ _ _ sm _ rfl rfl rfl (by have := SM.out; have := BD.out; omega)) ?_
    refine zP (.int .i64 ((sm / 256 : Nat) : Int)) ?_
    go_upto_region 5 with (fail)
    refine wp_region_lit ?_
    refine zP (.int .i64 ((i : Nat) : Int)) ?_
    refine zQ (.int .i64 ((i + 1 : Nat) : Int)) (run_addi Tryd.underlying3 rfl rfl rfl _ (by have := RI.out.idx; have := LN.out; have := LX.out; have := LY.out; rw [wrap_in _ (by omega) (by omega)]; omega)) ?_
    refine zP (.int .i64 ((i + 1 : Nat) : Int)) ?_
    have NX : Hid (AInv w xs ys (i + 1) (sm / 256) qv q2) := Lib.hid (NV.out qv q2 Pq.out)
    unfold wpList
    go_roundw
    case rel => first | exact ⟨i + 1, sm / 256, _, rfl, rfl, rfl, NX⟩ | ((repeat apply Exists.intro); exact ⟨⟨i + 1, sm / 256, _, rfl, rfl, rfl, NX⟩, rfl⟩)
    case measure => simp [intOf]; have := RI.out.idx; omega
  ·have HA := Lib.hid ha
   clear ha
   by_cases hb : i < lb
   ·have HB := Lib.hid hb
    clear hb
    obtain ⟨g2, o2, eb, hcb⟩ := ni_cell (HY.out.keep RI.out.below) HB.out
    have EB := Lib.hid eb
    have CB := Lib.hid hcb
    clear eb hcb
    obtain ⟨xa, hxa⟩ : ∃ q, xs.getD i 0 = q := ⟨_, rfl⟩
    obtain ⟨yb, hyb⟩ : ∃ q, ys.getD i 0 = q := ⟨_, rfl⟩
    rw [hyb] at CB
    have BD : Hid (cr ≤ 1 ∧ xa < 256 ∧ yb < 256) := Lib.hid ⟨RI.out.carry, by rw [← hxa]; exact getD_lt DX.out i, by rw [← hyb]; exact getD_lt DY.out i⟩
    obtain ⟨sm, hsm⟩ : ∃ q, cr + xa + yb = q := ⟨_, rfl⟩
    have NV := Lib.hid (fun v2 w2 => RI.out.step (v2 := v2) (w2 := w2) (hxa := hxa) (hyb := hyb) hsm DX.out DY.out (.inr (.inl (by have := HB.out; have := LY.out; omega))))
    have SM := Lib.hid hsm
    have ZA : Hid (xa = 0) := Lib.hid (by rw [← hxa, List.getD, List.getElem?_eq_none (by have := HA.out; have := LX.out; omega)]; rfl)
    clear hxa hyb hsm
    go_upto_region 4 with (fail)
    refine wp_region_lit ?_
    refine zP (.int .i64 ((i : Nat) : Int)) ?_
    refine zP (.slice a la ca) ?_
    refine zP (.int .i64 (la : Int)) ?_
    refine zQ (.bool false) (run_lti Tryd.underlying3 rfl rfl rfl (by have := HA.out; rw [decide_eq_false_iff_not]; omega)) ?_
    refine zP (.bool false) ?_
    refine zP (.int .i64 ((i : Nat) : Int)) ?_
    refine zP (.slice b lb cb) ?_
    refine zP (.int .i64 (lb : Int)) ?_
    refine zQ (.bool true) (run_lti Tryd.underlying3 rfl rfl rfl (by have := HB.out; rw [decide_eq_true_eq]; omega)) ?_
    refine zP (.bool true) ?_
    refine zP (.bool true) ?_
    refine wpL_skip (by kernel_rfl) ?_
    simp only [Act.put, List.setIfInBounds_toArray, List.set_cons_zero, List.set_cons_succ]
    refine wpL_skip (by kernel_rfl) ?_
    simp only [Act.put, List.setIfInBounds_toArray, List.set_cons_zero, List.set_cons_succ]
    refine zP (.bool true) ?_
    go_upto_region 6 with (fail)
    refine wp_region_lit ?_
    refine zP (.int .i64 ((i : Nat) : Int)) ?_
    refine zP (.slice a la ca) ?_
    refine zP (.int .i64 (la : Int)) ?_
    refine zQ (.bool false) (run_lti Tryd.underlying3 rfl rfl rfl (by have := HA.out; rw [decide_eq_false_iff_not]; omega)) ?_
    go_upto_region 8 with (fail)
    refine wp_region_lit ?_
    refine zP (.int .i64 ((i : Nat) : Int)) ?_
    refine zP (.slice b lb cb) ?_
    refine zP (.int .i64 (lb : Int)) ?_
    refine zQ (.bool true) (run_lti Tryd.underlying3 rfl rfl rfl (by have := HB.out; rw [decide_eq_true_eq]; omega)) ?_
    go_upto_region 9 with (fail)
    refine wp_region_lit ?_
    refine zP (.int .i64 ((cr : Nat) : Int)) ?_
    refine zP (.slice b lb cb) ?_
    refine zP (.int .i64 ((i : Nat) : Int)) ?_
    refine zQ (.pointer (some ⟨g2, o2 + i, none⟩)) (I.run_idx _ _ _ _ _ g2 o2 lb cb i rfl (by rw [EB.out]; rfl) rfl HB.out HY.out.2.1) ?_
    refine zQ (.int .i64 ((yb : Nat) : Int)) (run_load_one _ _ _ 3 _ _ rfl (g2) (o2 + i) rfl (CB.out) (by kernel_rfl)) ?_
    refine zQ (.int .i64 ((cr + yb : Nat) : Int)) (run_addi Tryd.underlying3 rfl rfl rfl _ (by have := BD.out; rw [wrap_in _ (by omega) (by omega)]; omega)) ?_
    refine zP (.int .i64 ((cr + yb : Nat) : Int)) ?_
    have E6 : Hid (.int .i64 ((cr + yb : Nat) : Int) = Value.int .i64 ((sm : Nat) : Int)) := Lib.hid (by congr 1; have := SM.out; have := ZA.out; omega)
    rw [E6.out]
    obtain ⟨q1, hq1⟩ : ∃ V, V = wr.alloc (.cells #[.int .i64 ((sm % 256 : Nat) : Int)] 3) := ⟨_, rfl⟩
    obtain ⟨qv, q2, r1, r2⟩ := (RI.out.pst).push _ (by have := RI.out.len; have := LN.out; have := HX.out.1; have := HY.out.1; have := RI.out.idx; have := LX.out; have := LY.out; omega) q1 hq1
    have Aq := Lib.hid r1
    have Pq := Lib.hid r2
    have Hq := Lib.hid hq1
    clear r1 r2 hq1
    go_upto_region 10 with (fail)
    refine wp_region_lit ?_
    refine zP (v) ?_
    refine zP (.int .i64 ((sm : Nat) : Int)) ?_
    refine zQ (.int .i64 ((sm % 256 : Nat) : Int)) (run_rem256 _ _ _ _ sm _ rfl rfl rfl (by have := SM.out; have := BD.out; omega)) ?_
    refine zV (.slice (some ⟨wr.heap.size, 0, none⟩) 1 1) (q1) (by rw [Hq.out]; kernel_rfl) ?_
    clear Hq
    refine zV (qv) (q2) (I.run_app _ _ _ _ _ _ _ _ _ rfl rfl rfl rfl Aq.out) ?_
    clear Aq
    refine zP (qv) ?_
    go_upto_region 11 with (fail)
    refine wp_region_lit ?_
    refine zP (.int .i64 ((sm : Nat) : Int)) ?_
    refine zQ (.int .i64 ((sm / 256 : Nat) : Int)) (rquo256 _ _ _ _ sm _ rfl rfl rfl (by have := SM.out; have := BD.out; omega)) ?_
    refine zP (.int .i64 ((sm / 256 : Nat) : Int)) ?_
    go_upto_region 5 with (fail)
    refine wp_region_lit ?_
    refine zP (.int .i64 ((i : Nat) : Int)) ?_
    refine zQ (.int .i64 ((i + 1 : Nat) : Int)) (run_addi Tryd.underlying3 rfl rfl rfl _ (by have := RI.out.idx; have := LN.out; have := LX.out; have := LY.out; rw [wrap_in _ (by omega) (by omega)]; omega)) ?_
    refine zP (.int .i64 ((i + 1 : Nat) : Int)) ?_
    have NX : Hid (AInv w xs ys (i + 1) (sm / 256) qv q2) := Lib.hid (NV.out qv q2 Pq.out)
    unfold wpList
    go_roundw
    case rel => first | exact ⟨i + 1, sm / 256, _, rfl, rfl, rfl, NX⟩ | ((repeat apply Exists.intro); exact ⟨⟨i + 1, sm / 256, _, rfl, rfl, rfl, NX⟩, rfl⟩)
    case measure => simp [intOf]; have := RI.out.idx; omega
   ·have HB := Lib.hid hb
    clear hb
    by_cases hc : 0 < cr
    ·have HC := Lib.hid hc
     clear hc
     obtain ⟨xa, hxa⟩ : ∃ q, xs.getD i 0 = q := ⟨_, rfl⟩
     obtain ⟨yb, hyb⟩ : ∃ q, ys.getD i 0 = q := ⟨_, rfl⟩
     have BD : Hid (cr ≤ 1 ∧ xa < 256 ∧ yb < 256) := Lib.hid ⟨RI.out.carry, by rw [← hxa]; exact getD_lt DX.out i, by rw [← hyb]; exact getD_lt DY.out i⟩
     obtain ⟨sm, hsm⟩ : ∃ q, cr + xa + yb = q := ⟨_, rfl⟩
     have NV := Lib.hid (fun v2 w2 => RI.out.step (v2 := v2) (w2 := w2) (hxa := hxa) (hyb := hyb) hsm DX.out DY.out (.inr (.inr HC.out)))
     have SM := Lib.hid hsm
     have ZA : Hid (xa = 0) := Lib.hid (by rw [← hxa, List.getD, List.getElem?_eq_none (by have := HA.out; have := LX.out; omega)]; rfl)
     have ZB : Hid (yb = 0) := Lib.hid (by rw [← hyb, List.getD, List.getElem?_eq_none (by have := HB.out; have := LY.out; omega)]; rfl)
     clear hxa hyb hsm
     go_upto_region 4 with (fail)
     refine wp_region_lit ?_
     refine zP (.int .i64 ((i : Nat) : Int)) ?_
     refine zP (.slice a la ca) ?_
     refine zP (.int .i64 (la : Int)) ?_
     refine zQ (.bool false) (run_lti Tryd.underlying3 rfl rfl rfl (by have := HA.out; rw [decide_eq_false_iff_not]; omega)) ?_
     refine zP (.bool false) ?_
     refine zP (.int .i64 ((i : Nat) : Int)) ?_
     refine zP (.slice b lb cb) ?_
     refine zP (.int .i64 (lb : Int)) ?_
     refine zQ (.bool false) (run_lti Tryd.underlying3 rfl rfl rfl (by have := HB.out; rw [decide_eq_false_iff_not]; omega)) ?_
     refine zP (.bool false) ?_
     refine zP (.bool false) ?_
     refine zP (.int .i64 ((cr : Nat) : Int)) ?_
     refine zQ (.bool true) (run_gti Tryd.underlying3 rfl rfl rfl (by have := HC.out; rw [decide_eq_true_eq]; omega)) ?_
     refine zP (.bool true) ?_
     go_upto_region 6 with (fail)
     refine wp_region_lit ?_
     refine zP (.int .i64 ((i : Nat) : Int)) ?_
     refine zP (.slice a la ca) ?_
     refine zP (.int .i64 (la : Int)) ?_
     refine zQ (.bool false) (run_lti Tryd.underlying3 rfl rfl rfl (by have := HA.out; rw [decide_eq_false_iff_not]; omega)) ?_
     go_upto_region 8 with (fail)
     refine wp_region_lit ?_
     refine zP (.int .i64 ((i : Nat) : Int)) ?_
     refine zP (.slice b lb cb) ?_
     refine zP (.int .i64 (lb : Int)) ?_
     refine zQ (.bool false) (run_lti Tryd.underlying3 rfl rfl rfl (by have := HB.out; rw [decide_eq_false_iff_not]; omega)) ?_
     have E6 : Hid (.int .i64 ((cr : Nat) : Int) = Value.int .i64 ((sm : Nat) : Int)) := Lib.hid (by congr 1; have := SM.out; have := ZA.out; have := ZB.out; omega)
     rw [E6.out]
     obtain ⟨q1, hq1⟩ : ∃ V, V = wr.alloc (.cells #[.int .i64 ((sm % 256 : Nat) : Int)] 3) := ⟨_, rfl⟩
     obtain ⟨qv, q2, r1, r2⟩ := (RI.out.pst).push _ (by have := RI.out.len; have := LN.out; have := HX.out.1; have := HY.out.1; have := RI.out.idx; have := LX.out; have := LY.out; omega) q1 hq1
     have Aq := Lib.hid r1
     have Pq := Lib.hid r2
     have Hq := Lib.hid hq1
     clear r1 r2 hq1
     go_upto_region 10 with (fail)
     refine wp_region_lit ?_
     refine zP (v) ?_
     refine zP (.int .i64 ((sm : Nat) : Int)) ?_
     refine zQ (.int .i64 ((sm % 256 : Nat) : Int)) (run_rem256 _ _ _ _ sm _ rfl rfl rfl (by have := SM.out; have := BD.out; omega)) ?_
     refine zV (.slice (some ⟨wr.heap.size, 0, none⟩) 1 1) (q1) (by rw [Hq.out]; kernel_rfl) ?_
     clear Hq
     refine zV (qv) (q2) (I.run_app _ _ _ _ _ _ _ _ _ rfl rfl rfl rfl Aq.out) ?_
     clear Aq
     refine zP (qv) ?_
     go_upto_region 11 with (fail)
     refine wp_region_lit ?_
     refine zP (.int .i64 ((sm : Nat) : Int)) ?_
     refine zQ (.int .i64 ((sm / 256 : Nat) : Int)) (rquo256 _ _ _ _ sm _ rfl rfl rfl (by have := SM.out; have := BD.out; omega)) ?_
     refine zP (.int .i64 ((sm / 256 : Nat) : Int)) ?_
     go_upto_region 5 with (fail)
     refine wp_region_lit ?_
     refine zP (.int .i64 ((i : Nat) : Int)) ?_
     refine zQ (.int .i64 ((i + 1 : Nat) : Int)) (run_addi Tryd.underlying3 rfl rfl rfl _ (by have := RI.out.idx; have := LN.out; have := LX.out; have := LY.out; rw [wrap_in _ (by omega) (by omega)]; omega)) ?_
     refine zP (.int .i64 ((i + 1 : Nat) : Int)) ?_
     have NX : Hid (AInv w xs ys (i + 1) (sm / 256) qv q2) := Lib.hid (NV.out qv q2 Pq.out)
     unfold wpList
     go_roundw
     case rel => first | exact ⟨i + 1, sm / 256, _, rfl, rfl, rfl, NX⟩ | ((repeat apply Exists.intro); exact ⟨⟨i + 1, sm / 256, _, rfl, rfl, rfl, NX⟩, rfl⟩)
     case measure => simp [intOf]; have := RI.out.idx; omega
    ·have HC := Lib.hid hc
     clear hc
     go_upto_region 4 with (fail)
     refine wp_region_lit ?_
     refine zP (.int .i64 ((i : Nat) : Int)) ?_
     refine zP (.slice a la ca) ?_
     refine zP (.int .i64 (la : Int)) ?_
     refine zQ (.bool false) (run_lti Tryd.underlying3 rfl rfl rfl (by have := HA.out; rw [decide_eq_false_iff_not]; omega)) ?_
     refine zP (.bool false) ?_
     refine zP (.int .i64 ((i : Nat) : Int)) ?_
     refine zP (.slice b lb cb) ?_
     refine zP (.int .i64 (lb : Int)) ?_
     refine zQ (.bool false) (run_lti Tryd.underlying3 rfl rfl rfl (by have := HB.out; rw [decide_eq_false_iff_not]; omega)) ?_
     refine zP (.bool false) ?_
     refine zP (.bool false) ?_
     refine zP (.int .i64 ((cr : Nat) : Int)) ?_
     refine zQ (.bool false) (run_gti Tryd.underlying3 rfl rfl rfl (by have := HC.out; rw [decide_eq_false_iff_not]; omega)) ?_
     refine zP (.bool false) ?_
     go_upto_region 12 with (fail)
     refine wp_region_lit ?_
     refine zP (v) ?_
     refine zP (v) ?_
     go_wp2_with fail
     go_ret
     exact ⟨_, _, rfl, RI.out.pst, RI.out.done DX.out DY.out (by have := HA.out; have := LX.out; omega) (by have := HB.out; have := LY.out; omega) (by have := HC.out; omega)⟩
end Go.Proofs.YtlbfohpkngmaoaaDoor.Po
