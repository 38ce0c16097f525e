/- Lengths and fillings: the program's and the reference's. -/
import Derived.Test.YtlbfohpkngmaoaaDoorChX
import Derived.Test.YtlbfohpkngmaoaaDoorPoA
import Derived.Test.YtlbfohpkngmaoaaDoorPoB
namespace Go.Proofs.YtlbfohpkngmaoaaDoor.Ch.B.Se
open Go Go.RowKit
theorem run_remn (a : Act) (o : Oper) (w : World) (x y : Operand) (p q m : Nat) (ho : o.op = .binOp .rem 3 x y 3) (hx : a.eval x = .int .i64 (p : Int)) (hy : a.eval y = .int .i64 ((q : Nat) : Int)) (hq : 0 < q) (hm : p % q = m) : (execOp a.eval o).run Tryd.prog w = .ok (.value (.int .i64 ((m : Nat) : Int))) w := by
 subst hm
 have h0 : (0 : Int) ≤ (p : Int) := by omega
 have h1 : (0 : Int) < (q : Int) := by omega
 have h2 : ((p : Int)).tmod (q : Int) = ((p % q : Nat) : Int) := by rw [Int.tmod_eq_emod_of_nonneg h0]; rfl
 unfold execOp
 simp only [ho, hx, hy]
 go_simp
 omega
theorem run_quoc (a : Act) (o : Oper) (w : World) (x : Operand) (p : Nat) (ho : o.op = .binOp .quo 3 x (.const (.int .i64 256)) 3) (hx : a.eval x = .int .i64 (p : Int)) (hp : p < 1000000) : (execOp a.eval o).run Tryd.prog w = .ok (.value (.int .i64 ((p / 256 : Nat) : Int))) w := by
 have u := run_underlying Tryd.underlying3 w
 have hc : ∀ v, a.eval (.const v) = v := fun _ => rfl
 unfold execOp
 simp only [ho, hx, hc]
 go_simp
 simp [Int.tdiv_eq_ediv_of_nonneg, IntKind.wrap, IntKind.bits, IntKind.signed]
 try omega
def lb (n i : Nat) : Int := ((n / 2 ^ (8 * i) % 256 : Nat) : Int)
theorem lb_byte (n i : Nat) : 0 ≤ lb n i ∧ lb n i ≤ 255 := by unfold lb; omega
theorem lb_of {n m i : Nat} (h : m = n / 256 ^ i) : (((m % 256 : Nat) : Int)) % 256 = lb n i := by
 unfold lb
 rw [h, show 2 ^ (8 * i) = 256 ^ i by rw [Nat.pow_mul]]
 omega
def len8 (n : Nat) : List Int := outV (lb n) 8 8
theorem len8_len (n : Nat) : (len8 n).length = 8 := outV_len _ _ _
theorem len8_all (n : Nat) : (len8 n).take 8 = len8 n := List.take_of_length_le (by rw [len8_len]; omega)
theorem len8_byte (n : Nat) : ∀ x ∈ len8 n, 0 ≤ x ∧ x ≤ 255 := by
 intro x hx
 unfold len8 at hx
 rw [outV_full] at hx
 obtain ⟨i, _, rfl⟩ := List.mem_map.1 hx
 exact lb_byte n i
theorem len8_next {n i : Nat} (h : i < 8) : (len8 n).take i ++ [lb n i] = (len8 n).take (i + 1) := by
 rw [List.take_add_one]
 congr 1
 unfold len8
 rw [outV_full, List.getElem?_map, List.getElem?_range h]
 rfl
def pd (n : Nat) : Nat := (16 - n % 16) % 16
theorem pd_lt {n k : Nat} (h : k < pd n) : (n + k) % 16 ≠ 0 := by unfold pd at h; omega
theorem pd_eq (n : Nat) : (n + pd n) % 16 = 0 := by unfold pd; omega
attribute [local irreducible] wpList
set_option maxHeartbeats 4000000 in
set_option maxRecDepth 100000 in
theorem length_any (a : Option Addr) (n c : Nat) (hn : n < 1000000) (w : World) :
  Calls Tryd.prog 18 #[.slice a n c] w fun e w' => ∃ g, e = .returned (.slice (some ⟨g, 0, none⟩) 8 8) ∧ Below w.heap.size w w' ∧ w.heap.size ≤ g ∧ Blk w' g 5 (ub (len8 n)).toArray := by
 have HN := Lib.hid hn
 clear hn
 go_enter Tryd.func18, Tryd.ntmps18
 go_upto_region 1 with (fail)
 refine wp_region_lit ?_
 obtain ⟨W1, hW1⟩ : ∃ V, V = w.alloc (.cells (ub (List.replicate 8 0)).toArray 5) := ⟨_, rfl⟩
 refine zV (.slice (some ⟨w.heap.size, 0, none⟩) 8 8) W1 (by rw [hW1]; kernel_rfl) ?_
 have F1 : Hid (Below w.heap.size w W1 ∧ Blk W1 w.heap.size 5 (ub (outV (lb n) 8 0)).toArray) := Lib.hid (by rw [hW1, outV_zero]; exact ⟨(Below.refl _ _).alloc (Nat.le_refl _) _, Blk.new _ _ _⟩)
 clear hW1
 obtain ⟨g, hg⟩ : ∃ q, w.heap.size = q := ⟨_, rfl⟩
 have G : Hid (w.heap.size = g) := Lib.hid hg
 rw [hg] at F1
 rw [hg]
 clear hg
 refine zP (.slice (some ⟨g, 0, none⟩) 8 8) ?_
 go_upto_region 2 with (fail)
 refine wp_region_lit ?_
 refine zP (.slice (some ⟨g, 0, none⟩) 8 8) ?_
 refine zP (.int .i64 (8 : Int)) ?_
 refine zP (.int .i64 0) ?_
 unfold wpList
 go_wp2_with fail
 go_loopw [8] (fun s8 wr => ∃ i : Nat, s8 = .int .i64 ((i : Nat) : Int) ∧ Hid (i ≤ 8 ∧ Below g w wr ∧ Blk wr g 5 (ub (outV (lb n) 8 i)).toArray)) (fun s8 _ => 8 - (intOf s8).toNat)
 case atStart => exact ⟨0, rfl, Lib.hid ⟨by omega, F1.out⟩⟩
 case round =>
  obtain ⟨i, rfl, RI⟩ := hrel
  by_cases hlt : i < 8
  ·have HK := Lib.hid hlt
   clear hlt
   go_upto_region 3 with (fail)
   refine wp_region_lit ?_
   refine zQ (.bool true) (run_lti Tryd.underlying3 rfl rfl rfl (by have := HK.out; rw [decide_eq_true_eq]; omega)) ?_
   go_upto_region 4 with (fail)
   refine wp_region_lit ?_
   refine zP (.int .i64 ((i : Nat) : Int)) ?_
   refine zP (.int .i64 ((i : Nat) : Int)) ?_
   go_upto_region 5 with (fail)
   refine wp_region_lit ?_
   refine zP (.slice (some ⟨g, 0, none⟩) 8 8) ?_
   refine zP (.int .i64 ((i : Nat) : Int)) ?_
   refine zP (.slice a n c) ?_
   refine zP (.int .i64 (n : Int)) ?_
   refine zQ (.int .u64 ((n : Nat) : Int)) (run_convi Tryd.underlying3 Tryd.underlying82 rfl rfl _ (by have := HN.out; rw [IntKind.wrap_u64]; omega)) ?_
   refine zP (.int .i64 ((i : Nat) : Int)) ?_
   refine zQ (.int .i64 ((8 * i : Nat) : Int)) (run_muli Tryd.underlying3 rfl rfl rfl _ ((by have := HK.out; rw [wrap_in _ (by omega) (by omega)]; omega))) ?_
   refine zQ (.int .u64 ((n / 2 ^ (8 * i) : Nat) : Int)) (Po.O.run_shr _ _ _ _ _ i n rfl rfl rfl HK.out (by have := HN.out; omega)) ?_
   refine zQ (.int .u8 (lb n i)) (run_convi Tryd.underlying82 Tryd.underlying5 rfl rfl _ (by rw [IntKind.wrap_u8]; rfl)) ?_
   refine zQ (.pointer (some ⟨g, 0 + i, none⟩)) (run_idx _ _ _ _ _ g 0 8 8 i rfl rfl rfl HK.out (by unfold maxLen; omega)) ?_
   refine wpL_store_one rfl rfl (g) (0 + i) rfl (.int .u8 (lb n i)) rfl rfl size5 ((ub_some RI.out.2.2 (by rw [outV_len]; exact HK.out))) (RI.out.2.2.free _) ?_
   simp only [Act.put, List.setIfInBounds_toArray, List.set_cons_zero, List.set_cons_succ]
   obtain ⟨w2, hw2⟩ : ∃ V, V = wr.setCell ⟨g, 0 + i, none⟩ (.int .u8 (lb n i)) := ⟨_, rfl⟩
   rw [← hw2]
   have NX : Hid (i + 1 ≤ 8 ∧ Below g w w2 ∧ Blk w2 g 5 (ub (outV (lb n) 8 (i + 1))).toArray) := Lib.hid (by
    refine ⟨HK.out, ?_, ?_⟩
    ·rw [hw2]; exact RI.out.2.1.setCell (p := ⟨g, 0 + i, none⟩) (Nat.le_refl _) _
    ·have h := Blk.set RI.out.2.2 (0 + i) (.int .u8 (lb n i))
     rw [← hw2, Nat.zero_add, ub_set, outV_set] at h
     exact h)
   clear hw2
   go_upto_region 6 with (fail)
   refine wp_region_lit ?_
   refine zQ (.int .i64 ((i + 1 : Nat) : Int)) (run_addi Tryd.underlying3 rfl rfl rfl _ ((by have := HK.out; rw [wrap_in _ (by omega) (by omega)]; omega))) ?_
   refine zP (.int .i64 ((i + 1 : Nat) : Int)) ?_
   unfold wpList
   go_roundw
   case rel => first | exact ⟨_, rfl, NX⟩ | ((repeat apply Exists.intro); exact ⟨⟨_, rfl, NX⟩, rfl⟩)
   case measure => simp [intOf]; have := HK.out; omega
  ·have EK : Hid (i = 8) := Lib.hid (by have := RI.out.1; omega)
   clear hlt
   have F2 : Hid (Below g w wr ∧ Blk wr g 5 (ub (len8 n)).toArray) := Lib.hid (by have h := RI.out.2; rw [EK.out] at h; exact h)
   go_upto_region 3 with (fail)
   refine wp_region_lit ?_
   refine zQ (.bool false) (run_lti Tryd.underlying3 rfl rfl rfl (by have := EK.out; rw [decide_eq_false_iff_not]; omega)) ?_
   go_upto_region 7 with (fail)
   refine wp_region_lit ?_
   refine zP (.slice (some ⟨g, 0, none⟩) 8 8) ?_
   refine zP (.slice (some ⟨g, 0, none⟩) 8 8) ?_
   go_wp2_with fail
   go_ret
   exact ⟨g, rfl, by rw [G.out]; exact F2.out.1, Nat.le_of_eq G.out, F2.out.2⟩
set_option maxHeartbeats 4000000 in
set_option maxRecDepth 100000 in
theorem little_any (n : Nat) (hn : n < 1000000) (w : World) :
  Calls Tryd.prog 29 #[.int .i64 (n : Int)] w fun e w' => givesO w e w' 8 (len8 n) := by
 have HN := Lib.hid hn
 clear hn
 go_enter Tryd.func29, Tryd.ntmps29
 go_upto_region 1 with (fail)
 refine wp_region_lit ?_
 refine zP (.slice none 0 0) ?_
 go_upto_region 2 with (fail)
 refine wp_region_lit ?_
 refine zP (.int .i64 0) ?_
 unfold wpList
 go_wp2_with fail
 go_loopw [0, 3, 4] (fun s0 s3 s4 wr => ∃ i m : Nat, (s0 = .int .i64 ((m : Nat) : Int) ∧ s4 = .int .i64 ((i : Nat) : Int)) ∧ Hid (i ≤ 8 ∧ m = n / 256 ^ i ∧ Below w.heap.size w wr ∧ Own wr w.heap.size s3 ((len8 n).take i))) (fun _ _ s4 _ => 8 - (intOf s4).toNat)
 case atStart => exact ⟨0, n, ⟨rfl, rfl⟩, Lib.hid ⟨by omega, by simp, Below.refl _ _, Own.nil _ _⟩⟩
 case round =>
  obtain ⟨i, m, ⟨rfl, rfl⟩, RI⟩ := hrel
  by_cases hlt : i < 8
  ·have HK := Lib.hid hlt
   clear hlt
   have HM : Hid (m ≤ n) := Lib.hid (by rw [RI.out.2.1]; exact Nat.div_le_self _ _)
   go_upto_region 3 with (fail)
   refine wp_region_lit ?_
   refine zP (.int .i64 ((i : Nat) : Int)) ?_
   refine zQ (.bool true) (run_lti Tryd.underlying3 rfl rfl rfl (by have := HK.out; rw [decide_eq_true_eq]; omega)) ?_
   go_upto_region 5 with (fail)
   refine wp_region_lit ?_
   refine zP (u3) ?_
   refine zP (.int .i64 ((m : Nat) : Int)) ?_
   refine zQ (.int .i64 ((m % 256 : Nat) : Int)) (run_remn _ _ _ _ _ m 256 (m % 256) rfl rfl rfl (by omega) rfl) ?_
   refine zQ (.int .u8 (lb n i)) (run_convi Tryd.underlying3 Tryd.underlying5 rfl rfl _ (by rw [IntKind.wrap_u8]; exact lb_of RI.out.2.1)) ?_
   obtain ⟨W1, hW1⟩ : ∃ V, V = wr.alloc (.cells #[.int .u8 (lb n i)] 5) := ⟨_, rfl⟩
   refine zV (.slice (some ⟨wr.heap.size, 0, none⟩) 1 1) W1 (by rw [hW1]; kernel_rfl) ?_
   have F1 : Hid (Below w.heap.size w W1 ∧ Own W1 w.heap.size u3 ((len8 n).take i) ∧ Row W1 (some ⟨wr.heap.size, 0, none⟩) 1 [lb n i]) := Lib.hid (by
    rw [hW1]
    exact ⟨RI.out.2.2.1.alloc RI.out.2.2.1.size _, RI.out.2.2.2.alloc _, row_of_blk (l := [lb n i]) (Blk.new _ _ _) rfl (by decide) (fun x hx => by have := List.mem_singleton.1 hx; subst this; exact lb_byte n i)⟩)
   clear hW1
   obtain ⟨v5, w5, q1, q2, q3, q4, _⟩ := append_own W1 w.heap.size u3 ((len8 n).take i) [lb n i] (some ⟨wr.heap.size, 0, none⟩) 1 1 F1.out.2.1 F1.out.2.2 (by rw [List.length_take]; have := HK.out; omega) F1.out.1.size
   have Q1 := Lib.hid q1
   have NX0 : Hid (Below w.heap.size w w5 ∧ Own w5 w.heap.size v5 ((len8 n).take (i + 1))) := Lib.hid (by
    have ol := F1.out.2.1.lt
    rw [len8_next HK.out] at q2
    exact ⟨F1.out.1.grown q3 F1.out.1.size (fun k e => (ol k e).1), q2⟩)
   clear q1 q2 q3 q4
   refine zV v5 w5 (run_app _ _ _ _ _ _ _ _ _ rfl rfl rfl rfl Q1.out) ?_
   clear Q1
   refine zP (v5) ?_
   go_upto_region 6 with (fail)
   refine wp_region_lit ?_
   refine zP (.int .i64 ((m : Nat) : Int)) ?_
   refine zQ (.int .i64 ((m / 256 : Nat) : Int)) (run_quoc _ _ _ _ m rfl rfl (by have := HM.out; have := HN.out; omega)) ?_
   refine zP (.int .i64 ((m / 256 : Nat) : Int)) ?_
   go_upto_region 4 with (fail)
   refine wp_region_lit ?_
   refine zP (.int .i64 ((i : Nat) : Int)) ?_
   refine zQ (.int .i64 ((i + 1 : Nat) : Int)) (run_addi Tryd.underlying3 rfl rfl rfl _ ((by have := HK.out; rw [wrap_in _ (by omega) (by omega)]; omega))) ?_
   refine zP (.int .i64 ((i + 1 : Nat) : Int)) ?_
   have NX : Hid (i + 1 ≤ 8 ∧ m / 256 = n / 256 ^ (i + 1) ∧ Below w.heap.size w w5 ∧ Own w5 w.heap.size v5 ((len8 n).take (i + 1))) := Lib.hid ⟨HK.out, by rw [RI.out.2.1, Nat.pow_succ, Nat.div_div_eq_div_mul], NX0.out⟩
   unfold wpList
   go_roundw
   case rel => first | exact ⟨_, _, ⟨rfl, rfl⟩, NX⟩ | ((repeat apply Exists.intro); exact ⟨⟨_, _, ⟨rfl, rfl⟩, NX⟩, rfl⟩)
   case measure => simp [intOf]; have := HK.out; omega
  ·have EK : Hid (i = 8) := Lib.hid (by have := RI.out.1; omega)
   clear hlt
   obtain ⟨a, cp, hv⟩ := Own.slice RI.out.2.2.2
   have HO := RI.out.2.2
   rw [EK.out, len8_all] at HO
   have HO := Lib.hid HO
   rw [EK.out, len8_all, len8_len] at hv
   subst hv
   go_upto_region 3 with (fail)
   refine wp_region_lit ?_
   refine zP (.int .i64 ((i : Nat) : Int)) ?_
   refine zQ (.bool false) (run_lti Tryd.underlying3 rfl rfl rfl (by have := EK.out; rw [decide_eq_false_iff_not]; omega)) ?_
   go_upto_region 7 with (fail)
   refine wp_region_lit ?_
   refine zP (.slice a 8 cp) ?_
   refine zP (.slice a 8 cp) ?_
   go_wp2_with fail
   go_ret
   exact ⟨a, cp, rfl, HO.out.1, HO.out.2⟩
set_option maxHeartbeats 4000000 in
set_option maxRecDepth 100000 in
theorem filling_any (a : Option Addr) (n c : Nat) (w : World) :
  Calls Tryd.prog 20 #[.slice a n c] w fun e w' => ∃ g, e = .returned (.slice (some ⟨g, 0, none⟩) (pd n) (pd n)) ∧ Below w.heap.size w w' ∧ w.heap.size ≤ g ∧ Blk w' g 5 (ub (List.replicate (pd n) 0)).toArray := by
 go_enter Tryd.func20, Tryd.ntmps20
 go_upto_region 1 with (fail)
 refine wp_region_lit ?_
 refine zP (.slice a n c) ?_
 refine zP (.int .i64 (n : Int)) ?_
 refine zQ (.int .i64 ((n % 16 : Nat) : Int)) (run_remn _ _ _ _ _ n 16 (n % 16) rfl rfl rfl (by omega) rfl) ?_
 refine zQ (.int .i64 ((16 - n % 16 : Nat) : Int)) (run_subi Tryd.underlying3 rfl rfl rfl _ (by rw [wrap_in _ (by omega) (by omega)]; omega)) ?_
 refine zQ (.int .i64 ((pd n : Nat) : Int)) (run_remn _ _ _ _ _ (16 - n % 16) 16 (pd n) rfl rfl rfl (by omega) rfl) ?_
 obtain ⟨W1, hW1⟩ : ∃ V, V = w.alloc (.cells (ub (List.replicate (pd n) 0)).toArray 5) := ⟨_, rfl⟩
 refine zV (.slice (some ⟨w.heap.size, 0, none⟩) (pd n) (pd n)) W1 (run_mk24 _ _ _ _ _ (pd n) rfl rfl (by unfold pd; omega) hW1) ?_
 have F1 : Hid (Below w.heap.size w W1 ∧ Blk W1 w.heap.size 5 (ub (List.replicate (pd n) 0)).toArray) := Lib.hid (by rw [hW1]; exact ⟨(Below.refl _ _).alloc (Nat.le_refl _) _, Blk.new _ _ _⟩)
 clear hW1
 refine zP (.slice (some ⟨w.heap.size, 0, none⟩) (pd n) (pd n)) ?_
 unfold wpList
 go_wp2_with fail
 go_ret
 exact ⟨_, rfl, F1.out.1, Nat.le_refl _, F1.out.2⟩
set_option maxHeartbeats 4000000 in
set_option maxRecDepth 100000 in
theorem fill_any (a : Option Addr) (n c : Nat) (xs : List Int) (hn : n < 1000000) (w : World) (hR : Row w a n xs) :
  Calls Tryd.prog 28 #[.slice a n c] w fun e w' => givesO w e w' (n + pd n) (xs ++ List.replicate (pd n) 0) := by
 have HN := Lib.hid hn
 have HR := Lib.hid hR
 clear hn hR
 go_enter Tryd.func28, Tryd.ntmps28
 go_upto_region 1 with (fail)
 refine wp_region_lit ?_
 refine zP (.slice none 0 0) ?_
 go_upto_region 2 with (fail)
 refine wp_region_lit ?_
 refine zP (.slice none 0 0) ?_
 refine zP (.slice a n c) ?_
 obtain ⟨v5, w5, q1, q2, q3, q4, _⟩ := append_own w w.heap.size (.slice none 0 0) [] xs a n c (Own.nil w w.heap.size) HR.out (by have := HN.out; simp; omega) (Nat.le_refl _)
 have Q1 := Lib.hid q1
 have F1 : Hid (Below w.heap.size w w5 ∧ Own w5 w.heap.size v5 (xs ++ List.replicate 0 0)) := Lib.hid ⟨(Below.refl _ _).grown q3 (Nat.le_refl _) (fun k e => by cases e), by simpa using q2⟩
 clear q1 q2 q3 q4
 refine zV v5 w5 (run_app _ _ _ _ _ _ _ _ _ rfl rfl rfl rfl Q1.out) ?_
 clear Q1
 refine zP (v5) ?_
 unfold wpList
 go_wp2_with fail
 go_loopw [3] (fun s3 wr => ∃ k : Nat, True ∧ Hid (k ≤ pd n ∧ Below w.heap.size w wr ∧ Own wr w.heap.size s3 (xs ++ List.replicate k 0))) (fun s3 _ => n + pd n - Po.slLen s3)
 case atStart => exact ⟨0, trivial, Lib.hid ⟨Nat.zero_le _, F1.out⟩⟩
 case round =>
  obtain ⟨k, _, RI⟩ := hrel
  obtain ⟨a3, c3, hv⟩ := Own.slice RI.out.2.2
  rw [List.length_append, List.length_replicate, HR.out.1] at hv
  subst hv
  by_cases hlt : k < pd n
  ·have HK := Lib.hid hlt
   clear hlt
   go_upto_region 3 with (fail)
   refine wp_region_lit ?_
   refine zP (.slice a3 (n + k) c3) ?_
   refine zP (.int .i64 ((n + k) : Int)) ?_
   refine zQ (.int .i64 (((n + k) % 16 : Nat) : Int)) (run_remn _ _ _ _ _ (n + k) 16 ((n + k) % 16) rfl rfl rfl (by omega) rfl) ?_
   refine zQ (.bool true) (run_nei Tryd.underlying3 rfl rfl rfl (by have := pd_lt HK.out; rw [decide_eq_true_eq]; omega)) ?_
   go_upto_region 4 with (fail)
   refine wp_region_lit ?_
   refine zP (.slice a3 (n + k) c3) ?_
   obtain ⟨W1, hW1⟩ : ∃ V, V = wr.alloc (.cells #[.int .u8 0] 5) := ⟨_, rfl⟩
   refine zV (.slice (some ⟨wr.heap.size, 0, none⟩) 1 1) W1 (by rw [hW1]; kernel_rfl) ?_
   have F2 : Hid (Below w.heap.size w W1 ∧ Own W1 w.heap.size (.slice a3 (n + k) c3) (xs ++ List.replicate k 0) ∧ Row W1 (some ⟨wr.heap.size, 0, none⟩) 1 [0]) := Lib.hid (by
    rw [hW1]
    exact ⟨RI.out.2.1.alloc RI.out.2.1.size _, RI.out.2.2.alloc _, row_of_blk (l := [0]) (Blk.new _ _ _) rfl (by decide) (by simp)⟩)
   clear hW1
   obtain ⟨v5, w5, q1, q2, q3, q4, _⟩ := append_own W1 w.heap.size (.slice a3 (n + k) c3) (xs ++ List.replicate k 0) [0] (some ⟨wr.heap.size, 0, none⟩) 1 1 F2.out.2.1 F2.out.2.2 (by rw [List.length_append, List.length_replicate, HR.out.1]; have := HN.out; have := HK.out; unfold pd at this; omega) F2.out.1.size
   have Q1 := Lib.hid q1
   have NX : Hid (k + 1 ≤ pd n ∧ Below w.heap.size w w5 ∧ Own w5 w.heap.size v5 (xs ++ List.replicate (k + 1) 0)) := Lib.hid (by
    have ol := F2.out.2.1.lt
    rw [List.append_assoc, ← List.replicate_succ'] at q2
    exact ⟨HK.out, F2.out.1.grown q3 F2.out.1.size (fun k e => (ol k e).1), q2⟩)
   obtain ⟨a5, c5, hv⟩ := Own.slice NX.out.2.2
   rw [List.length_append, List.length_replicate, HR.out.1] at hv
   subst hv
   clear q1 q2 q3 q4
   refine zV (.slice a5 (n + (k + 1)) c5) w5 (run_app _ _ _ _ _ _ _ _ _ rfl rfl rfl rfl Q1.out) ?_
   clear Q1
   refine zP (.slice a5 (n + (k + 1)) c5) ?_
   unfold wpList
   go_roundw
   case rel => first | exact ⟨_, trivial, NX⟩ | ((repeat apply Exists.intro); exact ⟨⟨_, trivial, NX⟩, rfl⟩)
   case measure => simp [Po.slLen]; have := HK.out; omega
  ·have EK : Hid (k = pd n) := Lib.hid (by have := RI.out.1; omega)
   clear hlt
   go_upto_region 3 with (fail)
   refine wp_region_lit ?_
   refine zP (.slice a3 (n + k) c3) ?_
   refine zP (.int .i64 ((n + k) : Int)) ?_
   refine zQ (.int .i64 (((n + k) % 16 : Nat) : Int)) (run_remn _ _ _ _ _ (n + k) 16 ((n + k) % 16) rfl rfl rfl (by omega) rfl) ?_
   refine zQ (.bool false) (run_nei Tryd.underlying3 rfl rfl rfl (by have := pd_eq n; rw [EK.out, decide_eq_false_iff_not]; omega)) ?_
   go_upto_region 5 with (fail)
   refine wp_region_lit ?_
   refine zP (.slice a3 (n + k) c3) ?_
   refine zP (.slice a3 (n + k) c3) ?_
   go_wp2_with fail
   go_ret
   have HO := RI.out.2
   have hk := EK.out
   subst hk
   exact ⟨a3, c3, rfl, HO.1, HO.2⟩
end Go.Proofs.YtlbfohpkngmaoaaDoor.Ch.B.Se
