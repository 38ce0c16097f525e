/- The reference: what is left by 2^130 - 5. -/
import Derived.Test.YtlbfohpkngmaoaaDoorPoR3
namespace Go.Proofs.YtlbfohpkngmaoaaDoor.Po
open Go Go.RowKit
theorem run_quo4 (a : Act) (o : Oper) (w : World) (x : Operand) (p q : Nat) (ho : o.op = .binOp .quo 3 x (.const (.int .i64 4)) 3) (hx : a.eval x = .int .i64 (p : Int)) (hq : p / 4 = q) (hp : p < 100000000000000) : (execOp a.eval o).run Tryd.prog w = .ok (.value (.int .i64 (q : Int))) w := by
 have u := run_underlying Tryd.underlying3 w
 have hc : ∀ v, a.eval (.const v) = v := fun _ => rfl
 subst hq
 unfold execOp
 simp only [ho, hx, hc]
 go_simp
 simp [Int.tdiv_eq_ediv_of_nonneg, IntKind.wrap, IntKind.bits, IntKind.signed]
 try omega
theorem run_rem4 (a : Act) (o : Oper) (w : World) (x : Operand) (p q : Nat) (ho : o.op = .binOp .rem 3 x (.const (.int .i64 4)) 3) (hx : a.eval x = .int .i64 (p : Int)) (hq : p % 4 = q) (hp : p < 100000000000000) : (execOp a.eval o).run Tryd.prog w = .ok (.value (.int .i64 (q : Int))) w := by
 have u := run_underlying Tryd.underlying3 w
 have hc : ∀ v, a.eval (.const v) = v := fun _ => rfl
 subst hq
 unfold execOp
 simp only [ho, hx, hc]
 go_simp
 simp [Int.tmod_eq_emod_of_nonneg, IntKind.wrap, IntKind.bits, IntKind.signed]
 try omega
theorem irow_one (W : World) (x : Nat) : I.Row (W.alloc (.cells #[.int .i64 ((x : Nat) : Int)] 3)) (some ⟨W.heap.size, 0, none⟩) 1 (ni [x]) :=
 ⟨rfl, by unfold maxLen; omega, trivial, fun j hj => by
  obtain rfl : j = 0 := by omega
  exact ⟨_, _, rfl, by rw [(Blk.new W 3 #[.int .i64 ((x : Nat) : Int)]).cell]; rfl⟩⟩
def TPSt (w W : World) (u v : Value) (xs ys : List Nat) : Prop := I.Own W w.heap.size u (ni xs) ∧ I.Own W w.heap.size v (ni ys) ∧ Below w.heap.size w W ∧ ∀ k, u.ownBlock = some k → v.ownBlock ≠ some k
theorem TPSt.nil (w : World) : TPSt w w (.slice none 0 0) (.slice none 0 0) [] [] := ⟨I.Own.nil _ _, I.Own.nil _ _, Below.refl _ _, fun k h => by cases h⟩
theorem TPSt.swap {w W : World} {u v : Value} {xs ys : List Nat} (h : TPSt w W u v xs ys) : TPSt w W v u ys xs := ⟨h.2.1, h.1, h.2.2.1, fun k h1 h2 => h.2.2.2 k h2 h1⟩
theorem TPSt.push1 {w W : World} {u v : Value} {xs ys : List Nat} (h : TPSt w W u v xs ys) (y : Nat) (hn : xs.length ≤ 1000000) (W1 : World) (hW : W1 = W.alloc (.cells #[.int .i64 ((y : Nat) : Int)] 3)) :
  ∃ u2 W2, (Builtin.append_ #[108, 108] 108 #[u, .slice (some ⟨W.heap.size, 0, none⟩) 1 1]).run Tryd.prog W1 = .ok u2 W2 ∧ TPSt w W2 u2 v (xs ++ [y]) ys := by
 subst hW
 have hs := h.2.2.1.size
 have hsz : (W.alloc (.cells #[.int .i64 ((y : Nat) : Int)] 3)).heap.size = W.heap.size + 1 := by simp
 have o1 := h.1.alloc (.cells #[.int .i64 ((y : Nat) : Int)] 3)
 obtain ⟨u2, W2, r1, r2, r3, r4, r5⟩ := I.append_own (W.alloc (.cells #[.int .i64 ((y : Nat) : Int)] 3)) w.heap.size u (ni xs) [((y : Nat) : Int)] (some ⟨W.heap.size, 0, none⟩) 1 1 o1 (irow_one W y) (by rw [ni_len]; omega) (by rw [hsz]; omega)
 have hv := h.2.1.alloc (.cells #[.int .i64 ((y : Nat) : Int)] 3)
 refine ⟨u2, W2, r1, by rw [show ni (xs ++ [y]) = ni xs ++ [((y : Nat) : Int)] by simp [ni]]; exact r2, hv.grown r3 ?_, (h.2.2.1.alloc hs _).trans (gb_own o1 r3 (by rw [hsz]; omega)), fun k hk hvk => ?_⟩
 ·cases e : v.ownBlock with
  | none => exact .inl rfl
  | some k => exact .inr (fun e2 => h.2.2.2 k e2.symm e)
 ·rcases r4 with r4 | r4
  ·exact h.2.2.2 k (by rw [← r4]; exact hk) hvk
  ·rw [r4] at hk
   have := (h.2.1.lt k hvk).2
   cases hk
   omega
theorem TPSt.push2 {w W : World} {u v : Value} {xs ys : List Nat} (h : TPSt w W u v xs ys) (y : Nat) (hn : ys.length ≤ 1000000) (W1 : World) (hW : W1 = W.alloc (.cells #[.int .i64 ((y : Nat) : Int)] 3)) :
  ∃ v2 W2, (Builtin.append_ #[108, 108] 108 #[v, .slice (some ⟨W.heap.size, 0, none⟩) 1 1]).run Tryd.prog W1 = .ok v2 W2 ∧ TPSt w W2 u v2 xs (ys ++ [y]) := by
 obtain ⟨v2, W2, r1, r2⟩ := h.swap.push1 y hn W1 hW
 exact ⟨v2, W2, r1, r2.swap⟩
def RSt (W : World) (v0 r : Nat) (xa : Option Addr) (xn : Nat) (xs : List Nat) : Prop := I.Row W xa xn (ni xs) ∧ (∀ z ∈ xs, z < 256) ∧ 17 ≤ xn ∧ (xn ≤ 18 ∨ xn + 13 * r ≤ 120) ∧ vd xs = foldK v0 r
theorem RSt.len {W : World} {v0 r xn : Nat} {xa : Option Addr} {xs : List Nat} (h : RSt W v0 r xa xn xs) : xs.length = xn := by rw [← ni_len]; exact h.1.1
theorem RSt.le {W : World} {v0 r xn : Nat} {xa : Option Addr} {xs : List Nat} (h : RSt W v0 r xa xn xs) : xn ≤ 120 := by have := h.2.2.2.1; omega
theorem RSt.step {W Y : World} {v0 r xn : Nat} {xa ya : Option Addr} {xs zs : List Nat} (h : RSt W v0 r xa xn xs) (h1 : I.Row Y ya zs.length (ni zs)) (h2 : ∀ z ∈ zs, z < 256) (h3 : vd zs = foldN (vd xs)) (h4 : 17 ≤ zs.length) (h5 : zs.length ≤ max 17 (xn - 16 + 1 + 1) + 1) : RSt Y v0 (r + 1) ya zs.length zs :=
 ⟨h1, h2, h4, by have := h.2.2.2.1; omega, by rw [h3, h.2.2.2.2]; rfl⟩
theorem fold_vd {x : List Nat} (h : ∀ y ∈ x, y < 256) (hl : 17 ≤ x.length) : vd (lowL x) + 5 * vd (shr2 (x.drop 16)) = foldN (vd x) := by rw [vd_lowL h hl, vd_high h hl]; rfl
theorem low_lt {xs : List Nat} {i n x : Nat} (hi : i < 16) (hl : xs.length = n) (hn : 17 ≤ n) (hx : xs.getD i 0 = x) : (lowL xs).take (i + 1) = (lowL xs).take i ++ [x] := by
 rw [getD_take (lowL xs) 0 (by rw [lowL_len (by omega)]; omega)]
 congr 2
 rw [← hx]
 simp [lowL, List.getD, List.getElem?_append, List.getElem?_take, hi]
 rw [if_pos (by omega)]
theorem low_16 {xs : List Nat} {i n x : Nat} (hi : i = 16) (hl : xs.length = n) (hn : 17 ≤ n) (hx : xs.getD i 0 = x) : (lowL xs).take (i + 1) = (lowL xs).take i ++ [x % 4] := by
 subst hi
 rw [getD_take (lowL xs) 0 (by rw [lowL_len (by omega)]; omega)]
 congr 2
 rw [← hx]
 have : (xs.take 16).length = 16 := by rw [List.length_take]; omega
 simp [lowL, List.getD, List.getElem?_append, this]
theorem low_gt {xs : List Nat} {i n : Nat} (hi : 16 < i) (hl : xs.length = n) (hn : 17 ≤ n) : (lowL xs).take (i + 1) = (lowL xs).take i := by
 rw [List.take_of_length_le (by rw [lowL_len (by omega)]; omega), List.take_of_length_le (by rw [lowL_len (by omega)]; omega)]
theorem high_next {xs : List Nat} {i x y d : Nat} (hi : 16 ≤ i) (hn : i < xs.length) (hx : xs.getD i 0 = x) (hy : xs.getD (i + 1) 0 = y) (hd : x / 4 + y % 4 * 64 = d) : (shr2 (xs.drop 16)).take (i + 1 - 16) = (shr2 (xs.drop 16)).take (i - 16) ++ [d] := by
 rw [show i + 1 - 16 = (i - 16) + 1 by omega, getD_take (shr2 (xs.drop 16)) 0 (by rw [shr2_len, List.length_drop]; omega), shr2_get _ _ (by rw [List.length_drop]; omega)]
 congr 2
 rw [← hd, ← hx, ← hy]
 simp only [List.getD, List.getElem?_drop]
 rw [show 16 + (i - 16) = i by omega, show 16 + (i - 16 + 1) = i + 1 by omega]
attribute [local irreducible] wpList
set_option maxRecDepth 100000 in
set_option maxHeartbeats 16000000 in
theorem refrest_any (w : World) (a : Option Addr) (n c : Nat) (xs0 : List Nat) (hx : I.Row w a n (ni xs0)) (dx : ∀ x ∈ xs0, x < 256) (hl : 17 ≤ n ∧ n ≤ 120) (hv : vd xs0 < 57896044618658097711785492504343953926634992332820282019728792003956564819968) :
  Calls Tryd.prog 45 #[.slice a n c] w fun e w' => ∃ a' n' c' zs, e = .returned (.slice a' n' c') ∧ I.Row w' a' n' (ni zs) ∧ Below w.heap.size w w' ∧ (∀ z ∈ zs, z < 256) ∧ vd zs = vd xs0 % p130 ∧ n' ≤ 18 := by
 obtain ⟨v0, hv0⟩ : ∃ q, vd xs0 = q := ⟨_, rfl⟩
 rw [hv0] at hv ⊢
 have H0 : Hid (RSt w v0 0 a n xs0) := Lib.hid ⟨hx, dx, hl.1, by omega, hv0⟩
 have HV := Lib.hid hv
 clear hx dx hl hv hv0
 go_enter Tryd.func45, Tryd.ntmps45
 go_upto_region 0 with (fail)
 refine wp_region_lit ?_
 refine zP (.slice none 0 0) ?_
 go_upto_region 1 with (fail)
 refine wp_region_lit ?_
 refine zP (.slice a n c) ?_
 refine zP (.slice a n c) ?_
 go_upto_region 2 with (fail)
 refine wp_region_lit ?_
 refine zP (.int .i64 0) ?_
 go_wp2_with fail
 go_loopw [3, 4] (fun s3 s4 wr => ∃ (r xn xc : Nat) (xa : Option Addr) (xs : List Nat), .slice xa xn xc = s3 ∧ s4 = .int .i64 ((r : Nat) : Int) ∧ Hid (r ≤ 8 ∧ Below w.heap.size w wr ∧ RSt wr v0 r xa xn xs)) (fun _ s4 _ => 8 - (intOf s4).toNat)
 case atStart => exact ⟨0, n, c, a, _, rfl, rfl, Lib.hid ⟨by omega, Below.refl _ _, H0.out⟩⟩
 case round =>
  obtain ⟨r, xn, xc, xa, xs, rfl, rfl, RI⟩ := hrel
  by_cases hlt : r < 8
  ·have HK := Lib.hid hlt
   clear hlt
   obtain ⟨W0, hW0⟩ : ∃ V, wr = V := ⟨_, rfl⟩
   rw [hW0] at RI
   rw [hW0]
   clear hW0
   go_upto_region 3 with (fail)
   refine wp_region_lit ?_
   refine zP (.int .i64 ((r : Nat) : Int)) ?_
   refine zQ (.bool true) (run_lti Tryd.underlying3 rfl rfl rfl (by have := HK.out; rw [decide_eq_true_eq]; omega)) ?_
   go_upto_region 5 with (fail)
   refine wp_region_lit ?_
   refine zP (.slice none 0 0) ?_
   refine zP (.slice none 0 0) ?_
   go_upto_region 6 with (fail)
   refine wp_region_lit ?_
   refine zP (.int .i64 0) ?_
   go_wp2_with fail
   go_loopw [5, 6, 7] (fun s5 s6 s7 wq => ∃ (i : Nat) (u v : Value), u = s5 ∧ v = s6 ∧ s7 = .int .i64 ((i : Nat) : Int) ∧ Hid (i ≤ xn ∧ TPSt W0 wq u v ((lowL xs).take i) ((shr2 (xs.drop 16)).take (i - 16)))) (fun _ _ s7 _ => xn - (intOf s7).toNat)
   case atStart => exact ⟨0, _, _, rfl, rfl, rfl, Lib.hid ⟨by omega, TPSt.nil W0⟩⟩
   case round =>
    obtain ⟨i, u, v, rfl, rfl, rfl, RJ⟩ := hrel
    by_cases hlt2 : i < xn
    ·have HK2 := Lib.hid hlt2
     clear hlt2
     obtain ⟨g, o, ea, hc⟩ := ni_cell (RI.out.2.2.1.keep RJ.out.2.2.2.1) HK2.out
     have EA := Lib.hid ea
     obtain ⟨x, hx⟩ : ∃ q, xs.getD i 0 = q := ⟨_, rfl⟩
     rw [hx] at hc
     have CX := Lib.hid hc
     have XX := Lib.hid (And.intro hx (show x < 256 by rw [← hx]; exact getD_lt RI.out.2.2.2.1 i))
     have LX : Hid (xs.length = xn ∧ 17 ≤ xn ∧ xn ≤ 120) := Lib.hid ⟨RI.out.2.2.len, RI.out.2.2.2.2.1, RI.out.2.2.le⟩
     clear ea hc hx
     by_cases h16 : i < 16
     ·have HI := Lib.hid h16
      clear h16
      go_upto_region 7 with (fail)
      refine wp_region_lit ?_
      refine zP (.int .i64 ((i : Nat) : Int)) ?_
      refine zP (.slice xa xn xc) ?_
      refine zP (.int .i64 (xn : Int)) ?_
      refine zQ (.bool true) (run_lti Tryd.underlying3 rfl rfl rfl (by have := HK2.out; rw [decide_eq_true_eq]; omega)) ?_
      go_upto_region 9 with (fail)
      refine wp_region_lit ?_
      refine zP (.int .i64 ((i : Nat) : Int)) ?_
      refine zQ (.bool true) (run_lti Tryd.underlying3 rfl rfl rfl (by have := HI.out; rw [decide_eq_true_eq]; omega)) ?_
      obtain ⟨q1, hq1⟩ : ∃ V, V = wr.alloc (.cells #[.int .i64 ((x : Nat) : Int)] 3) := ⟨_, rfl⟩
      obtain ⟨qv, q2, r1, r2⟩ := (RJ.out.2).push1 x (by rw [List.length_take]; have := LX.out; have := HK2.out; omega) q1 hq1
      have Aq := Lib.hid r1
      have Pq := Lib.hid r2
      have Hq := Lib.hid hq1
      clear r1 r2 hq1
      go_upto_region 10 with (fail)
      refine wp_region_lit ?_
      refine zP (u) ?_
      refine zP (.slice xa xn xc) ?_
      refine zP (.int .i64 ((i : Nat) : Int)) ?_
      refine zQ (.pointer (some ⟨g, o + i, none⟩)) (I.run_idx _ _ _ _ _ g o xn xc i rfl (by rw [EA.out]; rfl) rfl HK2.out (by have := LX.out; unfold maxLen; omega)) ?_
      refine zQ (.int .i64 ((x : Nat) : Int)) (run_load_one _ _ _ 3 _ _ rfl (g) (o + i) rfl (CX.out) (by kernel_rfl)) ?_
      refine zV (.slice (some ⟨wr.heap.size, 0, none⟩) 1 1) (q1) (by rw [Hq.out]; kernel_rfl) ?_
      clear Hq
      refine zV (qv) (q2) (I.run_app _ _ _ _ _ _ _ _ _ rfl rfl rfl rfl Aq.out) ?_
      clear Aq
      refine zP (qv) ?_
      go_upto_region 11 with (fail)
      refine wp_region_lit ?_
      refine zP (.int .i64 ((i : Nat) : Int)) ?_
      refine zQ (.bool false) (run_eqi Tryd.underlying3 rfl rfl rfl (by have := HI.out; rw [decide_eq_false_iff_not]; omega)) ?_
      go_upto_region 13 with (fail)
      refine wp_region_lit ?_
      refine zP (.int .i64 ((i : Nat) : Int)) ?_
      refine zQ (.bool false) (run_gei Tryd.underlying3 rfl rfl rfl (by have := HI.out; rw [decide_eq_false_iff_not]; omega)) ?_
      go_upto_region 8 with (fail)
      refine wp_region_lit ?_
      refine zP (.int .i64 ((i : Nat) : Int)) ?_
      refine zQ (.int .i64 ((i + 1 : Nat) : Int)) (run_addi Tryd.underlying3 rfl rfl rfl _ (by have := HK2.out; have := LX.out; rw [wrap_in _ (by omega) (by omega)]; omega)) ?_
      refine zP (.int .i64 ((i + 1 : Nat) : Int)) ?_
      have NX : Hid (i + 1 ≤ xn ∧ TPSt W0 q2 qv v ((lowL xs).take (i + 1)) ((shr2 (xs.drop 16)).take (i + 1 - 16))) := Lib.hid ⟨HK2.out, by rw [low_lt HI.out LX.out.1 LX.out.2.1 XX.out.1, show i + 1 - 16 = i - 16 by have := HI.out; omega]; exact Pq.out⟩
      unfold wpList
      go_roundw
      case rel => first | exact ⟨i + 1, _, _, rfl, rfl, rfl, NX⟩ | ((repeat apply Exists.intro); exact ⟨⟨i + 1, _, _, rfl, rfl, rfl, NX⟩, rfl⟩)
      case measure => simp [intOf]; have := HK2.out; omega
     ·have HI := Lib.hid h16
      clear h16
      by_cases he : i = 16
      ·have HI2 := Lib.hid he
       have HI := Lib.hid he
       clear he
       by_cases hn : i + 1 < xn
       ·have HN := Lib.hid hn
        clear hn
        go_upto_region 7 with (fail)
        refine wp_region_lit ?_
        refine zP (.int .i64 ((i : Nat) : Int)) ?_
        refine zP (.slice xa xn xc) ?_
        refine zP (.int .i64 (xn : Int)) ?_
        refine zQ (.bool true) (run_lti Tryd.underlying3 rfl rfl rfl (by have := HK2.out; rw [decide_eq_true_eq]; omega)) ?_
        go_upto_region 9 with (fail)
        refine wp_region_lit ?_
        refine zP (.int .i64 ((i : Nat) : Int)) ?_
        refine zQ (.bool false) (run_lti Tryd.underlying3 rfl rfl rfl (by have := HI.out; rw [decide_eq_false_iff_not]; omega)) ?_
        go_upto_region 11 with (fail)
        refine wp_region_lit ?_
        refine zP (.int .i64 ((i : Nat) : Int)) ?_
        refine zQ (.bool true) (run_eqi Tryd.underlying3 rfl rfl rfl (by have := HI.out; rw [decide_eq_true_eq]; omega)) ?_
        obtain ⟨p1, hp1⟩ : ∃ V, V = wr.alloc (.cells #[.int .i64 ((x % 4 : Nat) : Int)] 3) := ⟨_, rfl⟩
        obtain ⟨pv, p2, r1, r2⟩ := (RJ.out.2).push1 (x % 4) (by rw [List.length_take]; have := LX.out; have := HK2.out; omega) p1 hp1
        have Ap := Lib.hid r1
        have Pp := Lib.hid r2
        have Hp := Lib.hid hp1
        clear r1 r2 hp1
        go_upto_region 12 with (fail)
        refine wp_region_lit ?_
        refine zP (u) ?_
        refine zP (.slice xa xn xc) ?_
        refine zP (.int .i64 ((i : Nat) : Int)) ?_
        refine zQ (.pointer (some ⟨g, o + i, none⟩)) (I.run_idx _ _ _ _ _ g o xn xc i rfl (by rw [EA.out]; rfl) rfl HK2.out (by have := LX.out; unfold maxLen; omega)) ?_
        refine zQ (.int .i64 ((x : Nat) : Int)) (run_load_one _ _ _ 3 _ _ rfl (g) (o + i) rfl (CX.out) (by kernel_rfl)) ?_
        refine zQ (.int .i64 ((x % 4 : Nat) : Int)) (run_rem4 _ _ _ _ x _ rfl rfl rfl (by have := XX.out.2; omega)) ?_
        refine zV (.slice (some ⟨wr.heap.size, 0, none⟩) 1 1) (p1) (by rw [Hp.out]; kernel_rfl) ?_
        clear Hp
        refine zV (pv) (p2) (I.run_app _ _ _ _ _ _ _ _ _ rfl rfl rfl rfl Ap.out) ?_
        clear Ap
        refine zP (pv) ?_
        obtain ⟨g3, o3, ea3, hc3⟩ := ni_cell (RI.out.2.2.1.keep Pp.out.2.2.1) HK2.out
        have e3 : g3 = g ∧ o3 = o := by rw [EA.out] at ea3; cases ea3; exact ⟨rfl, rfl⟩
        rw [e3.1, e3.2, XX.out.1] at hc3
        have CX2 := Lib.hid hc3
        clear ea3 hc3 e3
        go_upto_region 13 with (fail)
        refine wp_region_lit ?_
        refine zP (.int .i64 ((i : Nat) : Int)) ?_
        refine zQ (.bool true) (run_gei Tryd.underlying3 rfl rfl rfl (by have := HI.out; rw [decide_eq_true_eq]; omega)) ?_
        go_upto_region 14 with (fail)
        refine wp_region_lit ?_
        refine zP (.int .i64 0) ?_
        go_upto_region 15 with (fail)
        refine wp_region_lit ?_
        refine zP (.int .i64 ((i : Nat) : Int)) ?_
        refine zQ (.int .i64 ((i + 1 : Nat) : Int)) (run_addi Tryd.underlying3 rfl rfl rfl _ (by have := HK2.out; have := LX.out; rw [wrap_in _ (by omega) (by omega)]; omega)) ?_
        refine zP (.slice xa xn xc) ?_
        refine zP (.int .i64 (xn : Int)) ?_
        refine zQ (.bool true) (run_lti Tryd.underlying3 rfl rfl rfl (by have := HN.out; rw [decide_eq_true_eq]; omega)) ?_
        obtain ⟨g4, o4, ea4, hc4⟩ := ni_cell (RI.out.2.2.1.keep (Pp.out).2.2.1) HN.out
        have e4 : g4 = g ∧ o4 = o := by rw [EA.out] at ea4; cases ea4; exact ⟨rfl, rfl⟩
        rw [e4.1, e4.2] at hc4
        obtain ⟨x9, hx9⟩ : ∃ q, xs.getD (i + 1) 0 = q := ⟨_, rfl⟩
        rw [hx9] at hc4
        have C9 := Lib.hid hc4
        have X9 := Lib.hid (And.intro hx9 (show x9 < 256 by rw [← hx9]; exact getD_lt RI.out.2.2.2.1 _))
        clear ea4 hc4 e4 hx9
        go_upto_region 16 with (fail)
        refine wp_region_lit ?_
        refine zP (.slice xa xn xc) ?_
        refine zP (.int .i64 ((i : Nat) : Int)) ?_
        refine zQ (.int .i64 ((i + 1 : Nat) : Int)) (run_addi Tryd.underlying3 rfl rfl rfl _ (by have := HK2.out; have := LX.out; rw [wrap_in _ (by omega) (by omega)]; omega)) ?_
        refine zQ (.pointer (some ⟨g, o + (i + 1), none⟩)) (I.run_idx _ _ _ _ _ g o xn xc (i + 1) rfl (by rw [EA.out]; rfl) rfl HN.out (by have := LX.out; unfold maxLen; omega)) ?_
        refine zQ (.int .i64 ((x9 : Nat) : Int)) (run_load_one _ _ _ 3 _ _ rfl (g) (o + (i + 1)) rfl (C9.out) (by kernel_rfl)) ?_
        refine zP (.int .i64 ((x9 : Nat) : Int)) ?_
        obtain ⟨hd, hhd⟩ : ∃ q, x / 4 + x9 % 4 * 64 = q := ⟨_, rfl⟩
        have HD := Lib.hid hhd
        clear hhd
        obtain ⟨q1, hq1⟩ : ∃ V, V = p2.alloc (.cells #[.int .i64 ((hd : Nat) : Int)] 3) := ⟨_, rfl⟩
        obtain ⟨qv, q2, r1, r2⟩ := (Pp.out).push2 hd (by rw [List.length_take]; have := LX.out; have := HK2.out; omega) q1 hq1
        have Aq := Lib.hid r1
        have Pq := Lib.hid r2
        have Hq := Lib.hid hq1
        clear r1 r2 hq1
        go_upto_region 17 with (fail)
        refine wp_region_lit ?_
        refine zP (v) ?_
        refine zP (.slice xa xn xc) ?_
        refine zP (.int .i64 ((i : Nat) : Int)) ?_
        refine zQ (.pointer (some ⟨g, o + i, none⟩)) (I.run_idx _ _ _ _ _ g o xn xc i rfl (by rw [EA.out]; rfl) rfl HK2.out (by have := LX.out; unfold maxLen; omega)) ?_
        refine zQ (.int .i64 ((x : Nat) : Int)) (run_load_one _ _ _ 3 _ _ rfl (g) (o + i) rfl (CX2.out) (by kernel_rfl)) ?_
        refine zQ (.int .i64 ((x / 4 : Nat) : Int)) (run_quo4 _ _ _ _ x _ rfl rfl rfl (by have := XX.out.2; omega)) ?_
        refine zP (.int .i64 ((x9 : Nat) : Int)) ?_
        refine zQ (.int .i64 ((x9 % 4 : Nat) : Int)) (run_rem4 _ _ _ _ x9 _ rfl rfl rfl (by have := X9.out.2; omega)) ?_
        refine zQ (.int .i64 ((x9 % 4 * 64 : Nat) : Int)) (run_muli Tryd.underlying3 rfl rfl rfl _ (by rw [wrap_in _ (by omega) (by omega)]; omega)) ?_
        refine zQ (.int .i64 ((hd : Nat) : Int)) (run_addi Tryd.underlying3 rfl rfl rfl _ (by have := HD.out; have := XX.out.2; rw [wrap_in _ (by omega) (by omega)]; omega)) ?_
        refine zV (.slice (some ⟨p2.heap.size, 0, none⟩) 1 1) (q1) (by rw [Hq.out]; kernel_rfl) ?_
        clear Hq
        refine zV (qv) (q2) (I.run_app _ _ _ _ _ _ _ _ _ rfl rfl rfl rfl Aq.out) ?_
        clear Aq
        refine zP (qv) ?_
        go_upto_region 8 with (fail)
        refine wp_region_lit ?_
        refine zP (.int .i64 ((i : Nat) : Int)) ?_
        refine zQ (.int .i64 ((i + 1 : Nat) : Int)) (run_addi Tryd.underlying3 rfl rfl rfl _ (by have := HK2.out; have := LX.out; rw [wrap_in _ (by omega) (by omega)]; omega)) ?_
        refine zP (.int .i64 ((i + 1 : Nat) : Int)) ?_
        have NX : Hid (i + 1 ≤ xn ∧ TPSt W0 q2 pv qv ((lowL xs).take (i + 1)) ((shr2 (xs.drop 16)).take (i + 1 - 16))) := Lib.hid ⟨HK2.out, by rw [low_16 HI2.out LX.out.1 LX.out.2.1 XX.out.1, high_next (by have := HI2.out; omega) (by have := HK2.out; have := LX.out; omega) XX.out.1 X9.out.1 HD.out]; exact Pq.out⟩
        unfold wpList
        go_roundw
        case rel => first | exact ⟨i + 1, _, _, rfl, rfl, rfl, NX⟩ | ((repeat apply Exists.intro); exact ⟨⟨i + 1, _, _, rfl, rfl, rfl, NX⟩, rfl⟩)
        case measure => simp [intOf]; have := HK2.out; omega
       ·have HN := Lib.hid hn
        clear hn
        go_upto_region 7 with (fail)
        refine wp_region_lit ?_
        refine zP (.int .i64 ((i : Nat) : Int)) ?_
        refine zP (.slice xa xn xc) ?_
        refine zP (.int .i64 (xn : Int)) ?_
        refine zQ (.bool true) (run_lti Tryd.underlying3 rfl rfl rfl (by have := HK2.out; rw [decide_eq_true_eq]; omega)) ?_
        go_upto_region 9 with (fail)
        refine wp_region_lit ?_
        refine zP (.int .i64 ((i : Nat) : Int)) ?_
        refine zQ (.bool false) (run_lti Tryd.underlying3 rfl rfl rfl (by have := HI.out; rw [decide_eq_false_iff_not]; omega)) ?_
        go_upto_region 11 with (fail)
        refine wp_region_lit ?_
        refine zP (.int .i64 ((i : Nat) : Int)) ?_
        refine zQ (.bool true) (run_eqi Tryd.underlying3 rfl rfl rfl (by have := HI.out; rw [decide_eq_true_eq]; omega)) ?_
        obtain ⟨p1, hp1⟩ : ∃ V, V = wr.alloc (.cells #[.int .i64 ((x % 4 : Nat) : Int)] 3) := ⟨_, rfl⟩
        obtain ⟨pv, p2, r1, r2⟩ := (RJ.out.2).push1 (x % 4) (by rw [List.length_take]; have := LX.out; have := HK2.out; omega) p1 hp1
        have Ap := Lib.hid r1
        have Pp := Lib.hid r2
        have Hp := Lib.hid hp1
        clear r1 r2 hp1
        go_upto_region 12 with (fail)
        refine wp_region_lit ?_
        refine zP (u) ?_
        refine zP (.slice xa xn xc) ?_
        refine zP (.int .i64 ((i : Nat) : Int)) ?_
        refine zQ (.pointer (some ⟨g, o + i, none⟩)) (I.run_idx _ _ _ _ _ g o xn xc i rfl (by rw [EA.out]; rfl) rfl HK2.out (by have := LX.out; unfold maxLen; omega)) ?_
        refine zQ (.int .i64 ((x : Nat) : Int)) (run_load_one _ _ _ 3 _ _ rfl (g) (o + i) rfl (CX.out) (by kernel_rfl)) ?_
        refine zQ (.int .i64 ((x % 4 : Nat) : Int)) (run_rem4 _ _ _ _ x _ rfl rfl rfl (by have := XX.out.2; omega)) ?_
        refine zV (.slice (some ⟨wr.heap.size, 0, none⟩) 1 1) (p1) (by rw [Hp.out]; kernel_rfl) ?_
        clear Hp
        refine zV (pv) (p2) (I.run_app _ _ _ _ _ _ _ _ _ rfl rfl rfl rfl Ap.out) ?_
        clear Ap
        refine zP (pv) ?_
        obtain ⟨g3, o3, ea3, hc3⟩ := ni_cell (RI.out.2.2.1.keep Pp.out.2.2.1) HK2.out
        have e3 : g3 = g ∧ o3 = o := by rw [EA.out] at ea3; cases ea3; exact ⟨rfl, rfl⟩
        rw [e3.1, e3.2, XX.out.1] at hc3
        have CX2 := Lib.hid hc3
        clear ea3 hc3 e3
        go_upto_region 13 with (fail)
        refine wp_region_lit ?_
        refine zP (.int .i64 ((i : Nat) : Int)) ?_
        refine zQ (.bool true) (run_gei Tryd.underlying3 rfl rfl rfl (by have := HI.out; rw [decide_eq_true_eq]; omega)) ?_
        go_upto_region 14 with (fail)
        refine wp_region_lit ?_
        refine zP (.int .i64 0) ?_
        go_upto_region 15 with (fail)
        refine wp_region_lit ?_
        refine zP (.int .i64 ((i : Nat) : Int)) ?_
        refine zQ (.int .i64 ((i + 1 : Nat) : Int)) (run_addi Tryd.underlying3 rfl rfl rfl _ (by have := HK2.out; have := LX.out; rw [wrap_in _ (by omega) (by omega)]; omega)) ?_
        refine zP (.slice xa xn xc) ?_
        refine zP (.int .i64 (xn : Int)) ?_
        refine zQ (.bool false) (run_lti Tryd.underlying3 rfl rfl rfl (by have := HN.out; rw [decide_eq_false_iff_not]; omega)) ?_
        obtain ⟨x9, hx9⟩ : ∃ q : Nat, q = 0 := ⟨_, rfl⟩
        have X9 : Hid (xs.getD (i + 1) 0 = x9 ∧ x9 < 256) := Lib.hid ⟨by rw [hx9, List.getD, List.getElem?_eq_none (by have := HN.out; have := LX.out; omega)]; rfl, by omega⟩
        have E8 : Hid (Value.int .i64 0 = .int .i64 ((x9 : Nat) : Int)) := Lib.hid (by rw [hx9]; rfl)
        clear hx9
        rw [E8.out]
        obtain ⟨hd, hhd⟩ : ∃ q, x / 4 + x9 % 4 * 64 = q := ⟨_, rfl⟩
        have HD := Lib.hid hhd
        clear hhd
        obtain ⟨q1, hq1⟩ : ∃ V, V = p2.alloc (.cells #[.int .i64 ((hd : Nat) : Int)] 3) := ⟨_, rfl⟩
        obtain ⟨qv, q2, r1, r2⟩ := (Pp.out).push2 hd (by rw [List.length_take]; have := LX.out; have := HK2.out; omega) q1 hq1
        have Aq := Lib.hid r1
        have Pq := Lib.hid r2
        have Hq := Lib.hid hq1
        clear r1 r2 hq1
        go_upto_region 17 with (fail)
        refine wp_region_lit ?_
        refine zP (v) ?_
        refine zP (.slice xa xn xc) ?_
        refine zP (.int .i64 ((i : Nat) : Int)) ?_
        refine zQ (.pointer (some ⟨g, o + i, none⟩)) (I.run_idx _ _ _ _ _ g o xn xc i rfl (by rw [EA.out]; rfl) rfl HK2.out (by have := LX.out; unfold maxLen; omega)) ?_
        refine zQ (.int .i64 ((x : Nat) : Int)) (run_load_one _ _ _ 3 _ _ rfl (g) (o + i) rfl (CX2.out) (by kernel_rfl)) ?_
        refine zQ (.int .i64 ((x / 4 : Nat) : Int)) (run_quo4 _ _ _ _ x _ rfl rfl rfl (by have := XX.out.2; omega)) ?_
        refine zP (.int .i64 ((x9 : Nat) : Int)) ?_
        refine zQ (.int .i64 ((x9 % 4 : Nat) : Int)) (run_rem4 _ _ _ _ x9 _ rfl rfl rfl (by have := X9.out.2; omega)) ?_
        refine zQ (.int .i64 ((x9 % 4 * 64 : Nat) : Int)) (run_muli Tryd.underlying3 rfl rfl rfl _ (by rw [wrap_in _ (by omega) (by omega)]; omega)) ?_
        refine zQ (.int .i64 ((hd : Nat) : Int)) (run_addi Tryd.underlying3 rfl rfl rfl _ (by have := HD.out; have := XX.out.2; rw [wrap_in _ (by omega) (by omega)]; omega)) ?_
        refine zV (.slice (some ⟨p2.heap.size, 0, none⟩) 1 1) (q1) (by rw [Hq.out]; kernel_rfl) ?_
        clear Hq
        refine zV (qv) (q2) (I.run_app _ _ _ _ _ _ _ _ _ rfl rfl rfl rfl Aq.out) ?_
        clear Aq
        refine zP (qv) ?_
        go_upto_region 8 with (fail)
        refine wp_region_lit ?_
        refine zP (.int .i64 ((i : Nat) : Int)) ?_
        refine zQ (.int .i64 ((i + 1 : Nat) : Int)) (run_addi Tryd.underlying3 rfl rfl rfl _ (by have := HK2.out; have := LX.out; rw [wrap_in _ (by omega) (by omega)]; omega)) ?_
        refine zP (.int .i64 ((i + 1 : Nat) : Int)) ?_
        have NX : Hid (i + 1 ≤ xn ∧ TPSt W0 q2 pv qv ((lowL xs).take (i + 1)) ((shr2 (xs.drop 16)).take (i + 1 - 16))) := Lib.hid ⟨HK2.out, by rw [low_16 HI2.out LX.out.1 LX.out.2.1 XX.out.1, high_next (by have := HI2.out; omega) (by have := HK2.out; have := LX.out; omega) XX.out.1 X9.out.1 HD.out]; exact Pq.out⟩
        unfold wpList
        go_roundw
        case rel => first | exact ⟨i + 1, _, _, rfl, rfl, rfl, NX⟩ | ((repeat apply Exists.intro); exact ⟨⟨i + 1, _, _, rfl, rfl, rfl, NX⟩, rfl⟩)
        case measure => simp [intOf]; have := HK2.out; omega
      ·have HI2 : Hid (16 < i) := Lib.hid (by have := HI.out; omega)
       have HI := HI2
       clear he
       by_cases hn : i + 1 < xn
       ·have HN := Lib.hid hn
        clear hn
        go_upto_region 7 with (fail)
        refine wp_region_lit ?_
        refine zP (.int .i64 ((i : Nat) : Int)) ?_
        refine zP (.slice xa xn xc) ?_
        refine zP (.int .i64 (xn : Int)) ?_
        refine zQ (.bool true) (run_lti Tryd.underlying3 rfl rfl rfl (by have := HK2.out; rw [decide_eq_true_eq]; omega)) ?_
        go_upto_region 9 with (fail)
        refine wp_region_lit ?_
        refine zP (.int .i64 ((i : Nat) : Int)) ?_
        refine zQ (.bool false) (run_lti Tryd.underlying3 rfl rfl rfl (by have := HI.out; rw [decide_eq_false_iff_not]; omega)) ?_
        go_upto_region 11 with (fail)
        refine wp_region_lit ?_
        refine zP (.int .i64 ((i : Nat) : Int)) ?_
        refine zQ (.bool false) (run_eqi Tryd.underlying3 rfl rfl rfl (by have := HI.out; rw [decide_eq_false_iff_not]; omega)) ?_
        go_upto_region 13 with (fail)
        refine wp_region_lit ?_
        refine zP (.int .i64 ((i : Nat) : Int)) ?_
        refine zQ (.bool true) (run_gei Tryd.underlying3 rfl rfl rfl (by have := HI.out; rw [decide_eq_true_eq]; omega)) ?_
        go_upto_region 14 with (fail)
        refine wp_region_lit ?_
        refine zP (.int .i64 0) ?_
        go_upto_region 15 with (fail)
        refine wp_region_lit ?_
        refine zP (.int .i64 ((i : Nat) : Int)) ?_
        refine zQ (.int .i64 ((i + 1 : Nat) : Int)) (run_addi Tryd.underlying3 rfl rfl rfl _ (by have := HK2.out; have := LX.out; rw [wrap_in _ (by omega) (by omega)]; omega)) ?_
        refine zP (.slice xa xn xc) ?_
        refine zP (.int .i64 (xn : Int)) ?_
        refine zQ (.bool true) (run_lti Tryd.underlying3 rfl rfl rfl (by have := HN.out; rw [decide_eq_true_eq]; omega)) ?_
        obtain ⟨g4, o4, ea4, hc4⟩ := ni_cell (RI.out.2.2.1.keep (RJ.out.2).2.2.1) HN.out
        have e4 : g4 = g ∧ o4 = o := by rw [EA.out] at ea4; cases ea4; exact ⟨rfl, rfl⟩
        rw [e4.1, e4.2] at hc4
        obtain ⟨x9, hx9⟩ : ∃ q, xs.getD (i + 1) 0 = q := ⟨_, rfl⟩
        rw [hx9] at hc4
        have C9 := Lib.hid hc4
        have X9 := Lib.hid (And.intro hx9 (show x9 < 256 by rw [← hx9]; exact getD_lt RI.out.2.2.2.1 _))
        clear ea4 hc4 e4 hx9
        go_upto_region 16 with (fail)
        refine wp_region_lit ?_
        refine zP (.slice xa xn xc) ?_
        refine zP (.int .i64 ((i : Nat) : Int)) ?_
        refine zQ (.int .i64 ((i + 1 : Nat) : Int)) (run_addi Tryd.underlying3 rfl rfl rfl _ (by have := HK2.out; have := LX.out; rw [wrap_in _ (by omega) (by omega)]; omega)) ?_
        refine zQ (.pointer (some ⟨g, o + (i + 1), none⟩)) (I.run_idx _ _ _ _ _ g o xn xc (i + 1) rfl (by rw [EA.out]; rfl) rfl HN.out (by have := LX.out; unfold maxLen; omega)) ?_
        refine zQ (.int .i64 ((x9 : Nat) : Int)) (run_load_one _ _ _ 3 _ _ rfl (g) (o + (i + 1)) rfl (C9.out) (by kernel_rfl)) ?_
        refine zP (.int .i64 ((x9 : Nat) : Int)) ?_
        obtain ⟨hd, hhd⟩ : ∃ q, x / 4 + x9 % 4 * 64 = q := ⟨_, rfl⟩
        have HD := Lib.hid hhd
        clear hhd
        obtain ⟨q1, hq1⟩ : ∃ V, V = wr.alloc (.cells #[.int .i64 ((hd : Nat) : Int)] 3) := ⟨_, rfl⟩
        obtain ⟨qv, q2, r1, r2⟩ := (RJ.out.2).push2 hd (by rw [List.length_take]; have := LX.out; have := HK2.out; omega) q1 hq1
        have Aq := Lib.hid r1
        have Pq := Lib.hid r2
        have Hq := Lib.hid hq1
        clear r1 r2 hq1
        go_upto_region 17 with (fail)
        refine wp_region_lit ?_
        refine zP (v) ?_
        refine zP (.slice xa xn xc) ?_
        refine zP (.int .i64 ((i : Nat) : Int)) ?_
        refine zQ (.pointer (some ⟨g, o + i, none⟩)) (I.run_idx _ _ _ _ _ g o xn xc i rfl (by rw [EA.out]; rfl) rfl HK2.out (by have := LX.out; unfold maxLen; omega)) ?_
        refine zQ (.int .i64 ((x : Nat) : Int)) (run_load_one _ _ _ 3 _ _ rfl (g) (o + i) rfl (CX.out) (by kernel_rfl)) ?_
        refine zQ (.int .i64 ((x / 4 : Nat) : Int)) (run_quo4 _ _ _ _ x _ rfl rfl rfl (by have := XX.out.2; omega)) ?_
        refine zP (.int .i64 ((x9 : Nat) : Int)) ?_
        refine zQ (.int .i64 ((x9 % 4 : Nat) : Int)) (run_rem4 _ _ _ _ x9 _ rfl rfl rfl (by have := X9.out.2; omega)) ?_
        refine zQ (.int .i64 ((x9 % 4 * 64 : Nat) : Int)) (run_muli Tryd.underlying3 rfl rfl rfl _ (by rw [wrap_in _ (by omega) (by omega)]; omega)) ?_
        refine zQ (.int .i64 ((hd : Nat) : Int)) (run_addi Tryd.underlying3 rfl rfl rfl _ (by have := HD.out; have := XX.out.2; rw [wrap_in _ (by omega) (by omega)]; omega)) ?_
        refine zV (.slice (some ⟨wr.heap.size, 0, none⟩) 1 1) (q1) (by rw [Hq.out]; kernel_rfl) ?_
        clear Hq
        refine zV (qv) (q2) (I.run_app _ _ _ _ _ _ _ _ _ rfl rfl rfl rfl Aq.out) ?_
        clear Aq
        refine zP (qv) ?_
        go_upto_region 8 with (fail)
        refine wp_region_lit ?_
        refine zP (.int .i64 ((i : Nat) : Int)) ?_
        refine zQ (.int .i64 ((i + 1 : Nat) : Int)) (run_addi Tryd.underlying3 rfl rfl rfl _ (by have := HK2.out; have := LX.out; rw [wrap_in _ (by omega) (by omega)]; omega)) ?_
        refine zP (.int .i64 ((i + 1 : Nat) : Int)) ?_
        have NX : Hid (i + 1 ≤ xn ∧ TPSt W0 q2 u qv ((lowL xs).take (i + 1)) ((shr2 (xs.drop 16)).take (i + 1 - 16))) := Lib.hid ⟨HK2.out, by rw [low_gt HI2.out LX.out.1 LX.out.2.1, high_next (by have := HI2.out; omega) (by have := HK2.out; have := LX.out; omega) XX.out.1 X9.out.1 HD.out]; exact Pq.out⟩
        unfold wpList
        go_roundw
        case rel => first | exact ⟨i + 1, _, _, rfl, rfl, rfl, NX⟩ | ((repeat apply Exists.intro); exact ⟨⟨i + 1, _, _, rfl, rfl, rfl, NX⟩, rfl⟩)
        case measure => simp [intOf]; have := HK2.out; omega
       ·have HN := Lib.hid hn
        clear hn
        go_upto_region 7 with (fail)
        refine wp_region_lit ?_
        refine zP (.int .i64 ((i : Nat) : Int)) ?_
        refine zP (.slice xa xn xc) ?_
        refine zP (.int .i64 (xn : Int)) ?_
        refine zQ (.bool true) (run_lti Tryd.underlying3 rfl rfl rfl (by have := HK2.out; rw [decide_eq_true_eq]; omega)) ?_
        go_upto_region 9 with (fail)
        refine wp_region_lit ?_
        refine zP (.int .i64 ((i : Nat) : Int)) ?_
        refine zQ (.bool false) (run_lti Tryd.underlying3 rfl rfl rfl (by have := HI.out; rw [decide_eq_false_iff_not]; omega)) ?_
        go_upto_region 11 with (fail)
        refine wp_region_lit ?_
        refine zP (.int .i64 ((i : Nat) : Int)) ?_
        refine zQ (.bool false) (run_eqi Tryd.underlying3 rfl rfl rfl (by have := HI.out; rw [decide_eq_false_iff_not]; omega)) ?_
        go_upto_region 13 with (fail)
        refine wp_region_lit ?_
        refine zP (.int .i64 ((i : Nat) : Int)) ?_
        refine zQ (.bool true) (run_gei Tryd.underlying3 rfl rfl rfl (by have := HI.out; rw [decide_eq_true_eq]; omega)) ?_
        go_upto_region 14 with (fail)
        refine wp_region_lit ?_
        refine zP (.int .i64 0) ?_
        go_upto_region 15 with (fail)
        refine wp_region_lit ?_
        refine zP (.int .i64 ((i : Nat) : Int)) ?_
        refine zQ (.int .i64 ((i + 1 : Nat) : Int)) (run_addi Tryd.underlying3 rfl rfl rfl _ (by have := HK2.out; have := LX.out; rw [wrap_in _ (by omega) (by omega)]; omega)) ?_
        refine zP (.slice xa xn xc) ?_
        refine zP (.int .i64 (xn : Int)) ?_
        refine zQ (.bool false) (run_lti Tryd.underlying3 rfl rfl rfl (by have := HN.out; rw [decide_eq_false_iff_not]; omega)) ?_
        obtain ⟨x9, hx9⟩ : ∃ q : Nat, q = 0 := ⟨_, rfl⟩
        have X9 : Hid (xs.getD (i + 1) 0 = x9 ∧ x9 < 256) := Lib.hid ⟨by rw [hx9, List.getD, List.getElem?_eq_none (by have := HN.out; have := LX.out; omega)]; rfl, by omega⟩
        have E8 : Hid (Value.int .i64 0 = .int .i64 ((x9 : Nat) : Int)) := Lib.hid (by rw [hx9]; rfl)
        clear hx9
        rw [E8.out]
        obtain ⟨hd, hhd⟩ : ∃ q, x / 4 + x9 % 4 * 64 = q := ⟨_, rfl⟩
        have HD := Lib.hid hhd
        clear hhd
        obtain ⟨q1, hq1⟩ : ∃ V, V = wr.alloc (.cells #[.int .i64 ((hd : Nat) : Int)] 3) := ⟨_, rfl⟩
        obtain ⟨qv, q2, r1, r2⟩ := (RJ.out.2).push2 hd (by rw [List.length_take]; have := LX.out; have := HK2.out; omega) q1 hq1
        have Aq := Lib.hid r1
        have Pq := Lib.hid r2
        have Hq := Lib.hid hq1
        clear r1 r2 hq1
        go_upto_region 17 with (fail)
        refine wp_region_lit ?_
        refine zP (v) ?_
        refine zP (.slice xa xn xc) ?_
        refine zP (.int .i64 ((i : Nat) : Int)) ?_
        refine zQ (.pointer (some ⟨g, o + i, none⟩)) (I.run_idx _ _ _ _ _ g o xn xc i rfl (by rw [EA.out]; rfl) rfl HK2.out (by have := LX.out; unfold maxLen; omega)) ?_
        refine zQ (.int .i64 ((x : Nat) : Int)) (run_load_one _ _ _ 3 _ _ rfl (g) (o + i) rfl (CX.out) (by kernel_rfl)) ?_
        refine zQ (.int .i64 ((x / 4 : Nat) : Int)) (run_quo4 _ _ _ _ x _ rfl rfl rfl (by have := XX.out.2; omega)) ?_
        refine zP (.int .i64 ((x9 : Nat) : Int)) ?_
        refine zQ (.int .i64 ((x9 % 4 : Nat) : Int)) (run_rem4 _ _ _ _ x9 _ rfl rfl rfl (by have := X9.out.2; omega)) ?_
        refine zQ (.int .i64 ((x9 % 4 * 64 : Nat) : Int)) (run_muli Tryd.underlying3 rfl rfl rfl _ (by rw [wrap_in _ (by omega) (by omega)]; omega)) ?_
        refine zQ (.int .i64 ((hd : Nat) : Int)) (run_addi Tryd.underlying3 rfl rfl rfl _ (by have := HD.out; have := XX.out.2; rw [wrap_in _ (by omega) (by omega)]; omega)) ?_
        refine zV (.slice (some ⟨wr.heap.size, 0, none⟩) 1 1) (q1) (by rw [Hq.out]; kernel_rfl) ?_
        clear Hq
        refine zV (qv) (q2) (I.run_app _ _ _ _ _ _ _ _ _ rfl rfl rfl rfl Aq.out) ?_
        clear Aq
        refine zP (qv) ?_
        go_upto_region 8 with (fail)
        refine wp_region_lit ?_
        refine zP (.int .i64 ((i : Nat) : Int)) ?_
        refine zQ (.int .i64 ((i + 1 : Nat) : Int)) (run_addi Tryd.underlying3 rfl rfl rfl _ (by have := HK2.out; have := LX.out; rw [wrap_in _ (by omega) (by omega)]; omega)) ?_
        refine zP (.int .i64 ((i + 1 : Nat) : Int)) ?_
        have NX : Hid (i + 1 ≤ xn ∧ TPSt W0 q2 u qv ((lowL xs).take (i + 1)) ((shr2 (xs.drop 16)).take (i + 1 - 16))) := Lib.hid ⟨HK2.out, by rw [low_gt HI2.out LX.out.1 LX.out.2.1, high_next (by have := HI2.out; omega) (by have := HK2.out; have := LX.out; omega) XX.out.1 X9.out.1 HD.out]; exact Pq.out⟩
        unfold wpList
        go_roundw
        case rel => first | exact ⟨i + 1, _, _, rfl, rfl, rfl, NX⟩ | ((repeat apply Exists.intro); exact ⟨⟨i + 1, _, _, rfl, rfl, rfl, NX⟩, rfl⟩)
        case measure => simp [intOf]; have := HK2.out; omega
    ·have HK2 := Lib.hid hlt2
     have EI : Hid (i = xn) := Lib.hid (by have := RJ.out.1; omega)
     clear hlt2
     have LX : Hid (xs.length = xn ∧ 17 ≤ xn ∧ xn ≤ 120) := Lib.hid ⟨RI.out.2.2.len, RI.out.2.2.2.2.1, RI.out.2.2.le⟩
     have T9 : Hid (TPSt W0 wr u v (lowL xs) (shr2 (xs.drop 16))) := Lib.hid (by have h := RJ.out.2; rw [EI.out, List.take_of_length_le (by rw [lowL_len (by have := LX.out; omega)]; have := LX.out; omega), List.take_of_length_le (by rw [shr2_len, List.length_drop]; have := LX.out; omega)] at h; exact h)
     go_upto_region 7 with (fail)
     refine wp_region_lit ?_
     refine zP (.int .i64 ((i : Nat) : Int)) ?_
     refine zP (.slice xa xn xc) ?_
     refine zP (.int .i64 (xn : Int)) ?_
     refine zQ (.bool false) (run_lti Tryd.underlying3 rfl rfl rfl (by have := HK2.out; rw [decide_eq_false_iff_not]; omega)) ?_
     obtain ⟨a5, c5, e5⟩ := T9.out.1.slice
     obtain ⟨a6, c6, e6⟩ := T9.out.2.1.slice
     rw [ni_len, lowL_len (by have := LX.out; omega)] at e5
     rw [ni_len, shr2_len, List.length_drop, LX.out.1] at e6
     subst e5
     subst e6
     obtain ⟨y1, hy1⟩ : ∃ V, V = wr.alloc (.cells #[.int .i64 5] 3) := ⟨_, rfl⟩
     have Y1 : Hid (I.Row y1 (some ⟨wr.heap.size, 0, none⟩) 1 (ni [5]) ∧ I.Row y1 a5 17 (ni (lowL xs)) ∧ I.Row y1 a6 (xn - 16) (ni (shr2 (xs.drop 16))) ∧ Below W0.heap.size W0 y1) := Lib.hid (by rw [hy1]; exact ⟨irow_one wr 5, (T9.out.1.row.1).keep ((Below.refl _ _).alloc (Nat.le_refl _) _), (T9.out.2.1.row.1).keep ((Below.refl _ _).alloc (Nat.le_refl _) _), T9.out.2.2.1.alloc T9.out.2.2.1.size _⟩)
     have HY1 := Lib.hid hy1
     clear hy1
     go_upto_region 18 with (fail)
     refine wp_region_lit ?_
     refine zP (.slice a5 17 c5) ?_
     refine zP (.slice a6 (xn - 16) c6) ?_
     refine zV (.slice (some ⟨wr.heap.size, 0, none⟩) 1 1) (y1) (by rw [HY1.out]; kernel_rfl) ?_
     clear HY1
     refine wpL_call 46 #[.slice a6 (xn - 16) c6, .slice (some ⟨wr.heap.size, 0, none⟩) 1 1] rfl (by kernel_rfl) (((refmul_any y1 a6 (some ⟨wr.heap.size, 0, none⟩) (xn - 16) c6 1 1 _ _ Y1.out.2.2.1 Y1.out.1 (shr2_lt (fun z hz => RI.out.2.2.2.1 z (List.mem_of_mem_drop hz))) (by simp) (by have := LX.out; omega))).mono fun e y2 ⟨gm, ms, he, q1, q2, q3, q4⟩ => ⟨.slice (some ⟨gm, 0, none⟩) (xn - 16 + 1 + 1) (xn - 16 + 1 + 1), he, ?_⟩)
     simp only [Act.put, List.setIfInBounds_toArray, List.set_cons_zero, List.set_cons_succ]
     have Y2 : Hid (I.Row y2 (some ⟨gm, 0, none⟩) (xn - 16 + 1 + 1) (ni ms) ∧ I.Row y2 a5 17 (ni (lowL xs)) ∧ Below W0.heap.size W0 y2 ∧ ms.length = xn - 16 + 1 + 1 ∧ (∀ z ∈ ms, z < 256) ∧ vd ms = vd (shr2 (xs.drop 16)) * 5) := Lib.hid ⟨q1.1.row.1, Y1.out.2.1.keep q1.2, Y1.out.2.2.2.trans (q1.2.mono Y1.out.2.2.2.size), q2, q3, by rw [q4]; simp [vd]⟩
     clear q1 q2 q3 q4 Y1
     refine wpL_call 47 #[.slice a5 17 c5, .slice (some ⟨gm, 0, none⟩) (xn - 16 + 1 + 1) (xn - 16 + 1 + 1)] rfl (by kernel_rfl) (((refadd_any y2 a5 (some ⟨gm, 0, none⟩) 17 c5 (xn - 16 + 1 + 1) (xn - 16 + 1 + 1) _ _ Y2.out.2.1 Y2.out.1 (lowL_lt RI.out.2.2.2.1) Y2.out.2.2.2.2.1 (by have := LX.out; omega))).mono fun e y3 ⟨v7, zs, he, q1, q2, q3, q4, q5, q6⟩ => ⟨v7, he, ?_⟩)
     simp only [Act.put, List.setIfInBounds_toArray, List.set_cons_zero, List.set_cons_succ]
     obtain ⟨a7, c7, e7⟩ := q1.1.slice
     rw [ni_len] at e7
     subst e7
     have NX : Hid (r + 1 ≤ 8 ∧ Below w.heap.size w y3 ∧ RSt y3 v0 (r + 1) a7 zs.length zs) := Lib.hid ⟨HK.out, RI.out.2.1.trans ((Y2.out.2.2.1.trans (q1.2.mono Y2.out.2.2.1.size)).mono RI.out.2.1.size), RI.out.2.2.step q1.1.row.1 q2 (by rw [q3, Y2.out.2.2.2.2.2, Nat.mul_comm]; exact fold_vd RI.out.2.2.2.1 (by have := LX.out; omega)) (by rw [lowL_len (by have := LX.out; omega)] at q4; exact q4) (by rw [lowL_len (by have := LX.out; omega), Y2.out.2.2.2.1] at q6; have := LX.out; omega)⟩
     clear q1 q2 q3 q4 q5 q6
     refine zP (.slice a7 zs.length c7) ?_
     go_upto_region 4 with (fail)
     refine wp_region_lit ?_
     refine zP (.int .i64 ((r : Nat) : Int)) ?_
     refine zQ (.int .i64 ((r + 1 : Nat) : Int)) (run_addi Tryd.underlying3 rfl rfl rfl _ (by have := HK.out; rw [wrap_in _ (by omega) (by omega)]; omega)) ?_
     refine zP (.int .i64 ((r + 1 : Nat) : Int)) ?_
     unfold wpList
     go_roundw
     case rel => first | exact ⟨r + 1, _, _, _, _, rfl, rfl, NX⟩ | ((repeat apply Exists.intro); exact ⟨⟨r + 1, _, _, _, _, rfl, rfl, NX⟩, rfl⟩)
     case measure => simp [intOf]; have := HK.out; omega
  ·have HK := Lib.hid hlt
   have ER : Hid (r = 8) := Lib.hid (by have := RI.out.1; omega)
   clear hlt
   have S8 : Hid (Below w.heap.size w wr ∧ I.Row wr xa xn (ni xs) ∧ (∀ z ∈ xs, z < 256) ∧ 17 ≤ xn ∧ xn ≤ 18 ∧ vd xs = foldK v0 8 ∧ xs.length = xn) := Lib.hid (by have h := RI.out.2.2; rw [ER.out] at h; exact ⟨RI.out.2.1, h.1, h.2.1, h.2.2.1, by have := h.2.2.2.1; omega, h.2.2.2.2, h.len⟩)
   have FE := Lib.hid (fold_end (foldK_lt HV.out))
   go_upto_region 3 with (fail)
   refine wp_region_lit ?_
   refine zP (.int .i64 ((r : Nat) : Int)) ?_
   refine zQ (.bool false) (run_lti Tryd.underlying3 rfl rfl rfl (by have := HK.out; rw [decide_eq_false_iff_not]; omega)) ?_
   by_cases hp : vd xs < p130
   ·have HP := Lib.hid hp
    clear hp
    go_upto_region 19 with (fail)
    refine wp_region_lit ?_
    refine zP (.slice xa xn xc) ?_
    refine wpL_call 54 #[.slice xa xn xc] rfl (by kernel_rfl) (((refless_any wr xa xn xc xs S8.out.2.1 S8.out.2.2.1 (by have := S8.out; omega))).mono fun e z1 ⟨he, hb⟩ => ⟨.bool true, (he.trans (by rw [decide_eq_true HP.out])), ?_⟩)
    simp only [Act.put, List.setIfInBounds_toArray, List.set_cons_zero, List.set_cons_succ]
    have B9 : Hid (Below w.heap.size w z1 ∧ I.Row z1 xa xn (ni xs)) := Lib.hid ⟨S8.out.1.trans (hb.mono S8.out.1.size), S8.out.2.1.keep hb⟩
    clear hb
    go_upto_region 20 with (fail)
    refine wp_region_lit ?_
    refine zP (.slice xa xn xc) ?_
    refine zP (.slice xa xn xc) ?_
    go_wp2_with fail
    go_ret
    exact ⟨xa, xn, xc, xs, rfl, B9.out.2, B9.out.1, S8.out.2.2.1, by rw [← foldK_mod v0 8, ← S8.out.2.2.2.2.2.1]; exact FE.out.1 (by rw [← S8.out.2.2.2.2.2.1]; exact HP.out) |> fun q => by rw [← S8.out.2.2.2.2.2.1] at q; exact q, by have := S8.out; omega⟩
   ·have HP := Lib.hid hp
    clear hp
    go_upto_region 19 with (fail)
    refine wp_region_lit ?_
    refine zP (.slice xa xn xc) ?_
    refine wpL_call 54 #[.slice xa xn xc] rfl (by kernel_rfl) (((refless_any wr xa xn xc xs S8.out.2.1 S8.out.2.2.1 (by have := S8.out; omega))).mono fun e z1 ⟨he, hb⟩ => ⟨.bool false, (he.trans (by rw [decide_eq_false HP.out])), ?_⟩)
    simp only [Act.put, List.setIfInBounds_toArray, List.set_cons_zero, List.set_cons_succ]
    have B9 : Hid (Below w.heap.size w z1 ∧ I.Row z1 xa xn (ni xs)) := Lib.hid ⟨S8.out.1.trans (hb.mono S8.out.1.size), S8.out.2.1.keep hb⟩
    clear hb
    obtain ⟨z2, hz2⟩ : ∃ V, V = z1.alloc (.cells #[.int .i64 5] 3) := ⟨_, rfl⟩
    have Z2 : Hid (I.Row z2 (some ⟨z1.heap.size, 0, none⟩) 1 (ni [5]) ∧ I.Row z2 xa xn (ni xs) ∧ Below w.heap.size w z2) := Lib.hid (by rw [hz2]; exact ⟨irow_one z1 5, B9.out.2.keep ((Below.refl _ _).alloc (Nat.le_refl _) _), B9.out.1.alloc B9.out.1.size _⟩)
    have HZ2 := Lib.hid hz2
    clear hz2
    go_upto_region 21 with (fail)
    refine wp_region_lit ?_
    refine zP (.slice xa xn xc) ?_
    refine zV (.slice (some ⟨z1.heap.size, 0, none⟩) 1 1) (z2) (by rw [HZ2.out]; kernel_rfl) ?_
    clear HZ2
    refine wpL_call 47 #[.slice xa xn xc, .slice (some ⟨z1.heap.size, 0, none⟩) 1 1] rfl (by kernel_rfl) (((refadd_any z2 xa (some ⟨z1.heap.size, 0, none⟩) xn xc 1 1 _ _ Z2.out.2.1 Z2.out.1 S8.out.2.2.1 (by simp) (by have := S8.out; omega))).mono fun e z3 ⟨v8, ys, he, q1, q2, q3, q4, q5, q6⟩ => ⟨v8, he, ?_⟩)
    simp only [Act.put, List.setIfInBounds_toArray, List.set_cons_zero, List.set_cons_succ]
    obtain ⟨ya, yc, e8⟩ := q1.1.slice
    rw [ni_len] at e8
    obtain ⟨yn, hyn⟩ : ∃ q, ys.length = q := ⟨_, rfl⟩
    rw [hyn] at e8
    subst e8
    have Z3 : Hid (Below w.heap.size w z3 ∧ I.Row z3 ya yn (ni ys) ∧ (∀ z ∈ ys, z < 256) ∧ vd ys = vd xs + 5 ∧ 17 ≤ yn ∧ yn ≤ 20 ∧ ys.length = yn) := Lib.hid ⟨Z2.out.2.2.trans (q1.2.mono Z2.out.2.2.size), by have h := q1.1.row.1; exact h, q2, by rw [q3]; simp [vd], by rw [S8.out.2.2.2.2.2.2, hyn] at q4; have := S8.out; omega, by rw [S8.out.2.2.2.2.2.2, hyn] at q6; have := S8.out; simp at q6; omega, hyn⟩
    clear q1 q2 q3 q4 q5 q6 hyn
    refine zP (.slice ya yn yc) ?_
    go_upto_region 22 with (fail)
    refine wp_region_lit ?_
    refine zP (.slice none 0 0) ?_
    go_upto_region 23 with (fail)
    refine wp_region_lit ?_
    refine zP (.int .i64 0) ?_
    go_wp2_with fail
    go_loopw [10, 11] (fun s10 s11 wq => ∃ (i : Nat) (v : Value), v = s10 ∧ s11 = .int .i64 ((i : Nat) : Int) ∧ Hid (i ≤ 17 ∧ IPSt z3 wq v ((lowL ys).take i))) (fun _ s11 _ => 17 - (intOf s11).toNat)
    case atStart => exact ⟨0, _, rfl, rfl, Lib.hid ⟨by omega, IPSt.nil z3⟩⟩
    case round =>
     obtain ⟨i, v, rfl, rfl, RJ⟩ := hrel
     by_cases hlt : i < 17
     ·have HK2 := Lib.hid hlt
      clear hlt
      have HK3 : Hid (i < yn) := Lib.hid (by have := HK2.out; have := Z3.out; omega)
      obtain ⟨g, o, ea, hc⟩ := ni_cell (Z3.out.2.1.keep RJ.out.2.2) HK3.out
      have EA := Lib.hid ea
      obtain ⟨x, hx⟩ : ∃ q, ys.getD i 0 = q := ⟨_, rfl⟩
      rw [hx] at hc
      have CX := Lib.hid hc
      have XX := Lib.hid (And.intro hx (show x < 256 by rw [← hx]; exact getD_lt Z3.out.2.2.1 i))
      clear ea hc hx
      by_cases h16 : i = 16
      ·have HI := Lib.hid h16
       clear h16
       go_upto_region 24 with (fail)
       refine wp_region_lit ?_
       refine zP (.int .i64 ((i : Nat) : Int)) ?_
       refine zQ (.bool true) (run_lti Tryd.underlying3 rfl rfl rfl (by have := HK2.out; rw [decide_eq_true_eq]; omega)) ?_
       refine zP (.bool true) ?_
       refine zP (.int .i64 ((i : Nat) : Int)) ?_
       refine zP (.slice ya yn yc) ?_
       refine zP (.int .i64 (yn : Int)) ?_
       refine zQ (.bool true) (run_lti Tryd.underlying3 rfl rfl rfl (by have := HK3.out; rw [decide_eq_true_eq]; omega)) ?_
       refine zP (.bool true) ?_
       go_upto_region 26 with (fail)
       refine wp_region_lit ?_
       refine zP (.int .i64 ((i : Nat) : Int)) ?_
       refine zQ (.bool true) (run_eqi Tryd.underlying3 rfl rfl rfl (by have := HI.out; rw [decide_eq_true_eq]; omega)) ?_
       obtain ⟨q1, hq1⟩ : ∃ V, V = wr.alloc (.cells #[.int .i64 ((x % 4 : Nat) : Int)] 3) := ⟨_, rfl⟩
       obtain ⟨qv, q2, r1, r2⟩ := (RJ.out.2).push (x % 4) (by rw [List.length_take]; have := HK2.out; omega) q1 hq1
       have AQ := Lib.hid r1
       have PQ := Lib.hid r2
       have HQ := Lib.hid hq1
       clear r1 r2 hq1
       go_upto_region 27 with (fail)
       refine wp_region_lit ?_
       refine zP (v) ?_
       refine zP (.slice ya yn yc) ?_
       refine zP (.int .i64 ((i : Nat) : Int)) ?_
       refine zQ (.pointer (some ⟨g, o + i, none⟩)) (I.run_idx _ _ _ _ _ g o yn yc i rfl (by rw [EA.out]; rfl) rfl HK3.out (by have := Z3.out; unfold maxLen; omega)) ?_
       refine zQ (.int .i64 ((x : Nat) : Int)) (run_load_one _ _ _ 3 _ _ rfl (g) (o + i) rfl (CX.out) (by kernel_rfl)) ?_
       refine zQ (.int .i64 ((x % 4 : Nat) : Int)) (run_rem4 _ _ _ _ x _ rfl rfl rfl (by have := XX.out.2; omega)) ?_
       refine zV (.slice (some ⟨wr.heap.size, 0, none⟩) 1 1) (q1) (by rw [HQ.out]; kernel_rfl) ?_
       clear HQ
       refine zV (qv) (q2) (I.run_app _ _ _ _ _ _ _ _ _ rfl rfl rfl rfl AQ.out) ?_
       clear AQ
       refine zP (qv) ?_
       go_upto_region 25 with (fail)
       refine wp_region_lit ?_
       refine zP (.int .i64 ((i : Nat) : Int)) ?_
       refine zQ (.int .i64 ((i + 1 : Nat) : Int)) (run_addi Tryd.underlying3 rfl rfl rfl _ (by have := HK2.out; rw [wrap_in _ (by omega) (by omega)]; omega)) ?_
       refine zP (.int .i64 ((i + 1 : Nat) : Int)) ?_
       have NX : Hid (i + 1 ≤ 17 ∧ IPSt z3 q2 qv ((lowL ys).take (i + 1))) := Lib.hid ⟨HK2.out, by rw [low_16 HI.out Z3.out.2.2.2.2.2.2 Z3.out.2.2.2.2.1 XX.out.1]; exact PQ.out⟩
       unfold wpList
       go_roundw
       case rel => first | exact ⟨i + 1, _, rfl, rfl, NX⟩ | ((repeat apply Exists.intro); exact ⟨⟨i + 1, _, rfl, rfl, NX⟩, rfl⟩)
       case measure => simp [intOf]; have := HK2.out; omega
      ·have HI := Lib.hid h16
       clear h16
       go_upto_region 24 with (fail)
       refine wp_region_lit ?_
       refine zP (.int .i64 ((i : Nat) : Int)) ?_
       refine zQ (.bool true) (run_lti Tryd.underlying3 rfl rfl rfl (by have := HK2.out; rw [decide_eq_true_eq]; omega)) ?_
       refine zP (.bool true) ?_
       refine zP (.int .i64 ((i : Nat) : Int)) ?_
       refine zP (.slice ya yn yc) ?_
       refine zP (.int .i64 (yn : Int)) ?_
       refine zQ (.bool true) (run_lti Tryd.underlying3 rfl rfl rfl (by have := HK3.out; rw [decide_eq_true_eq]; omega)) ?_
       refine zP (.bool true) ?_
       go_upto_region 26 with (fail)
       refine wp_region_lit ?_
       refine zP (.int .i64 ((i : Nat) : Int)) ?_
       refine zQ (.bool false) (run_eqi Tryd.underlying3 rfl rfl rfl (by have := HI.out; rw [decide_eq_false_iff_not]; omega)) ?_
       obtain ⟨q1, hq1⟩ : ∃ V, V = wr.alloc (.cells #[.int .i64 ((x : Nat) : Int)] 3) := ⟨_, rfl⟩
       obtain ⟨qv, q2, r1, r2⟩ := (RJ.out.2).push (x) (by rw [List.length_take]; have := HK2.out; omega) q1 hq1
       have AQ := Lib.hid r1
       have PQ := Lib.hid r2
       have HQ := Lib.hid hq1
       clear r1 r2 hq1
       go_upto_region 28 with (fail)
       refine wp_region_lit ?_
       refine zP (v) ?_
       refine zP (.slice ya yn yc) ?_
       refine zP (.int .i64 ((i : Nat) : Int)) ?_
       refine zQ (.pointer (some ⟨g, o + i, none⟩)) (I.run_idx _ _ _ _ _ g o yn yc i rfl (by rw [EA.out]; rfl) rfl HK3.out (by have := Z3.out; unfold maxLen; omega)) ?_
       refine zQ (.int .i64 ((x : Nat) : Int)) (run_load_one _ _ _ 3 _ _ rfl (g) (o + i) rfl (CX.out) (by kernel_rfl)) ?_
       refine zV (.slice (some ⟨wr.heap.size, 0, none⟩) 1 1) (q1) (by rw [HQ.out]; kernel_rfl) ?_
       clear HQ
       refine zV (qv) (q2) (I.run_app _ _ _ _ _ _ _ _ _ rfl rfl rfl rfl AQ.out) ?_
       clear AQ
       refine zP (qv) ?_
       go_upto_region 25 with (fail)
       refine wp_region_lit ?_
       refine zP (.int .i64 ((i : Nat) : Int)) ?_
       refine zQ (.int .i64 ((i + 1 : Nat) : Int)) (run_addi Tryd.underlying3 rfl rfl rfl _ (by have := HK2.out; rw [wrap_in _ (by omega) (by omega)]; omega)) ?_
       refine zP (.int .i64 ((i + 1 : Nat) : Int)) ?_
       have NX : Hid (i + 1 ≤ 17 ∧ IPSt z3 q2 qv ((lowL ys).take (i + 1))) := Lib.hid ⟨HK2.out, by rw [low_lt (show i < 16 by have := HI.out; have := HK2.out; omega) Z3.out.2.2.2.2.2.2 Z3.out.2.2.2.2.1 XX.out.1]; exact PQ.out⟩
       unfold wpList
       go_roundw
       case rel => first | exact ⟨i + 1, _, rfl, rfl, NX⟩ | ((repeat apply Exists.intro); exact ⟨⟨i + 1, _, rfl, rfl, NX⟩, rfl⟩)
       case measure => simp [intOf]; have := HK2.out; omega
     ·have HK2 := Lib.hid hlt
      have EI : Hid (i = 17) := Lib.hid (by have := RJ.out.1; omega)
      clear hlt
      go_upto_region 24 with (fail)
      refine wp_region_lit ?_
      refine zP (.int .i64 ((i : Nat) : Int)) ?_
      refine zQ (.bool false) (run_lti Tryd.underlying3 rfl rfl rfl (by have := HK2.out; rw [decide_eq_false_iff_not]; omega)) ?_
      refine zP (.bool false) ?_
      refine wpL_skip (by kernel_rfl) ?_
      simp only [Act.put, List.setIfInBounds_toArray, List.set_cons_zero, List.set_cons_succ]
      refine wpL_skip (by kernel_rfl) ?_
      simp only [Act.put, List.setIfInBounds_toArray, List.set_cons_zero, List.set_cons_succ]
      refine wpL_skip (by kernel_rfl) ?_
      simp only [Act.put, List.setIfInBounds_toArray, List.set_cons_zero, List.set_cons_succ]
      refine wpL_skip (by kernel_rfl) ?_
      simp only [Act.put, List.setIfInBounds_toArray, List.set_cons_zero, List.set_cons_succ]
      refine zP (.bool false) ?_
      go_upto_region 29 with (fail)
      refine wp_region_lit ?_
      refine zP (v) ?_
      refine zP (v) ?_
      go_wp2_with fail
      go_ret
      have T := RJ.out.2
      rw [EI.out, List.take_of_length_le (by rw [lowL_len (by have := Z3.out; omega)]; omega)] at T
      obtain ⟨oa, oc, eo⟩ := T.1.slice
      rw [ni_len, lowL_len (by have := Z3.out; omega)] at eo
      exact ⟨oa, 17, oc, lowL ys, by show Ending.returned v = _; rw [eo], (by rw [eo] at T; exact T.1.row.1), Z3.out.1.trans (T.2.mono Z3.out.1.size), lowL_lt Z3.out.2.2.1, by rw [vd_lowL Z3.out.2.2.1 (by have := Z3.out; omega), Z3.out.2.2.2.1, S8.out.2.2.2.2.2.1, ← foldK_mod v0 8]; exact FE.out.2 (by rw [← S8.out.2.2.2.2.2.1]; exact HP.out), by omega⟩
end Go.Proofs.YtlbfohpkngmaoaaDoor.Po
