import Derived.Test.YteblaknbehfkgaaK15
namespace Go.Proofs.Yteblaknbehfkgaa
open Go Go.RowKit

attribute [local irreducible] wpList
set_option maxHeartbeats 1000000 in
theorem onum_gen (w : World) (b x : Nat) (st : Option (List Int)) (h : OutG w b st) (hx : x < 18446744073709551616) :
    Calls Try.prog 20 #[.pointer (some ⟨b, 0, none⟩), .int .u64 (x : Int)] w fun e w' => e = .returned (.tuple #[]) ∧ OutG w' b (putG st (enc x)) ∧ Below b w w' := by
  have HH := Lib.hid h
  have HX := Lib.hid hx
  clear h hx
  go_enter Try.func20, Try.ntmps20
  go_wp2_with fail
  go_loopw [1] (fun s1 wr => ∃ (y : Nat) (pre : List Int), s1 = .int .u64 (y : Int) ∧ Hid (enc x = pre ++ enc y ∧ OutG wr b (putG st pre) ∧ Below b w wr) ∧ Hid (y < 18446744073709551616)) (fun s1 _ => (intOf s1).toNat)
  case atStart => exact ⟨x, [], rfl, Lib.hid ⟨rfl, by rw [putG_nil st HH.out.lim]; exact HH.out, Below.refl _ _⟩, HX⟩
  case round =>
    obtain ⟨y, pre, rfl, RI, HY⟩ := hrel
    by_cases hlt : y < 128
    · have HL := Lib.hid hlt
      clear hlt
      go_upto_region 0 with (fail)
      refine wp_region_lit ?_
      refine wpL_pure (.int .u64 (y : Int)) rfl (by kernel_rfl) ?_
      simp only [Act.put, List.setIfInBounds_toArray, List.set_cons_zero, List.set_cons_succ]
      refine wpL_pure (.bool false) rfl (run_gei Try.underlying33 rfl rfl rfl (by have := HL.out; rw [decide_eq_false_iff_not]; omega)) ?_
      simp only [Act.put, List.setIfInBounds_toArray, List.set_cons_zero, List.set_cons_succ]
      go_upto_region 3 with (fail)
      refine wp_region_lit ?_
      obtain ⟨w1, hw1⟩ : ∃ V, V = wr.alloc (.cells #[.int .u8 ((y % 256 : Nat) : Int)] 5) := ⟨_, rfl⟩
      have PU := Lib.hid (put_gen w1 b (putG st pre) [((y % 256 : Nat) : Int)] (some ⟨wr.heap.size, 0, none⟩) 1 1 (by rw [hw1]; exact RI.out.2.1.below ((Below.refl _ _).alloc (Nat.le_refl _) _)) (fun X hX => Row.grown (by rw [hw1]; exact row_one wr _ (by omega) (by omega)) hX (fun p hp => by cases hp; intro e; have := RI.out.2.1.lt; simp at e; omega)) (by omega))
      have BW : Hid (Below b wr w1) := Lib.hid (by rw [hw1]; exact (Below.refl _ _).alloc (Nat.le_of_lt RI.out.2.1.lt) _)
      refine wpL_pure (.pointer (some ⟨b, 0, none⟩)) rfl (by kernel_rfl) ?_
      simp only [Act.put, List.setIfInBounds_toArray, List.set_cons_zero, List.set_cons_succ]
      refine wpL_pure (.pointer (some ⟨b, 0, none⟩)) rfl (by kernel_rfl) ?_
      simp only [Act.put, List.setIfInBounds_toArray, List.set_cons_zero, List.set_cons_succ]
      refine wpL_pure (.pointer (some ⟨b, 0, none⟩)) rfl (by kernel_rfl) ?_
      simp only [Act.put, List.setIfInBounds_toArray, List.set_cons_zero, List.set_cons_succ]
      refine wpL_pure (.int .u64 (y : Int)) rfl (by kernel_rfl) ?_
      simp only [Act.put, List.setIfInBounds_toArray, List.set_cons_zero, List.set_cons_succ]
      refine wpL_pure (.int .u8 ((y % 256 : Nat) : Int)) rfl (run_convi Try.underlying33 Try.underlying5 rfl rfl _ (by rw [IntKind.wrap_u8]; omega)) ?_
      simp only [Act.put, List.setIfInBounds_toArray, List.set_cons_zero, List.set_cons_succ]
      refine wpL_value (.slice (some ⟨wr.heap.size, 0, none⟩) 1 1) (w1) rfl (by rw [hw1]; kernel_rfl) ?_
      simp only [Act.put, List.setIfInBounds_toArray, List.set_cons_zero, List.set_cons_succ]
      refine wpL_call 31 #[.pointer (some ⟨b, 0, none⟩), .slice (some ⟨wr.heap.size, 0, none⟩) 1 1] rfl (by kernel_rfl) ((PU.out).mono fun e w2 ⟨he, hO, hB⟩ => ⟨.tuple #[], he, ?_⟩)
      simp only [Act.put, List.setIfInBounds_toArray, List.set_cons_zero, List.set_cons_succ]
      rw [putG_putG] at hO
      have NX := Lib.hid (And.intro hO (RI.out.2.2.trans (BW.out.trans hB)))
      clear hO hB PU hw1
      go_wp2_with fail
      go_end0
      exact ⟨rfl, by
        have e : enc x = pre ++ [((y % 256 : Nat) : Int)] := by
          rw [RI.out.1, enc_lo y HL.out, show y % 256 = y by have := HL.out; omega]
        rw [e]
        exact NX.out.1, NX.out.2⟩
    · have HL := Lib.hid hlt
      clear hlt
      go_upto_region 0 with (fail)
      refine wp_region_lit ?_
      refine wpL_pure (.int .u64 (y : Int)) rfl (by kernel_rfl) ?_
      simp only [Act.put, List.setIfInBounds_toArray, List.set_cons_zero, List.set_cons_succ]
      refine wpL_pure (.bool true) rfl (run_gei Try.underlying33 rfl rfl rfl (by have := HL.out; rw [decide_eq_true_eq]; omega)) ?_
      simp only [Act.put, List.setIfInBounds_toArray, List.set_cons_zero, List.set_cons_succ]
      go_upto_region 1 with (fail)
      refine wp_region_lit ?_
      obtain ⟨w1, hw1⟩ : ∃ V, V = wr.alloc (.cells #[.int .u8 ((y % 128 + 128 : Nat) : Int)] 5) := ⟨_, rfl⟩
      have PU := Lib.hid (put_gen w1 b (putG st pre) [((y % 128 + 128 : Nat) : Int)] (some ⟨wr.heap.size, 0, none⟩) 1 1 (by rw [hw1]; exact RI.out.2.1.below ((Below.refl _ _).alloc (Nat.le_refl _) _)) (fun X hX => Row.grown (by rw [hw1]; exact row_one wr _ (by omega) (by omega)) hX (fun p hp => by cases hp; intro e; have := RI.out.2.1.lt; simp at e; omega)) (by omega))
      have BW : Hid (Below b wr w1) := Lib.hid (by rw [hw1]; exact (Below.refl _ _).alloc (Nat.le_of_lt RI.out.2.1.lt) _)
      refine wpL_pure (.pointer (some ⟨b, 0, none⟩)) rfl (by kernel_rfl) ?_
      simp only [Act.put, List.setIfInBounds_toArray, List.set_cons_zero, List.set_cons_succ]
      refine wpL_pure (.pointer (some ⟨b, 0, none⟩)) rfl (by kernel_rfl) ?_
      simp only [Act.put, List.setIfInBounds_toArray, List.set_cons_zero, List.set_cons_succ]
      refine wpL_pure (.pointer (some ⟨b, 0, none⟩)) rfl (by kernel_rfl) ?_
      simp only [Act.put, List.setIfInBounds_toArray, List.set_cons_zero, List.set_cons_succ]
      refine wpL_pure (.int .u64 (y : Int)) rfl (by kernel_rfl) ?_
      simp only [Act.put, List.setIfInBounds_toArray, List.set_cons_zero, List.set_cons_succ]
      refine wpL_pure (.int .u8 ((y % 256 : Nat) : Int)) rfl (run_convi Try.underlying33 Try.underlying5 rfl rfl _ (by rw [IntKind.wrap_u8]; omega)) ?_
      simp only [Act.put, List.setIfInBounds_toArray, List.set_cons_zero, List.set_cons_succ]
      refine wpL_pure (.int .u8 ((y % 128 + 128 : Nat) : Int)) rfl (run_biti (.inl rfl) Try.underlying5 rfl rfl rfl _ (or128 y)) ?_
      simp only [Act.put, List.setIfInBounds_toArray, List.set_cons_zero, List.set_cons_succ]
      refine wpL_value (.slice (some ⟨wr.heap.size, 0, none⟩) 1 1) (w1) rfl (by rw [hw1]; kernel_rfl) ?_
      simp only [Act.put, List.setIfInBounds_toArray, List.set_cons_zero, List.set_cons_succ]
      refine wpL_call 31 #[.pointer (some ⟨b, 0, none⟩), .slice (some ⟨wr.heap.size, 0, none⟩) 1 1] rfl (by kernel_rfl) ((PU.out).mono fun e w2 ⟨he, hO, hB⟩ => ⟨.tuple #[], he, ?_⟩)
      simp only [Act.put, List.setIfInBounds_toArray, List.set_cons_zero, List.set_cons_succ]
      rw [putG_putG] at hO
      have NX := Lib.hid (And.intro hO (RI.out.2.2.trans (BW.out.trans hB)))
      clear hO hB PU hw1
      go_upto_region 2 with (fail)
      refine wp_region_lit ?_
      refine wpL_pure (.int .u64 (y : Int)) rfl (by kernel_rfl) ?_
      simp only [Act.put, List.setIfInBounds_toArray, List.set_cons_zero, List.set_cons_succ]
      refine wpL_pure (.int .u64 ((y / 128 : Nat) : Int)) rfl (run_shr7 _ _ _ _ y rfl rfl HY.out) ?_
      simp only [Act.put, List.setIfInBounds_toArray, List.set_cons_zero, List.set_cons_succ]
      refine wpL_pure (.int .u64 ((y / 128 : Nat) : Int)) rfl (by kernel_rfl) ?_
      simp only [Act.put, List.setIfInBounds_toArray, List.set_cons_zero, List.set_cons_succ]
      unfold wpList
      go_roundw
      case rel =>
        have NY : Hid (enc x = (pre ++ [((y % 128 + 128 : Nat) : Int)]) ++ enc (y / 128) ∧ OutG w2 b (putG st (pre ++ [((y % 128 + 128 : Nat) : Int)])) ∧ Below b w w2) := Lib.hid ⟨by rw [RI.out.1, enc_hi y HL.out]; simp, NX.out.1, NX.out.2⟩
        first | exact ⟨y / 128, _, rfl, NY, Lib.hid (by have := HY.out; omega)⟩ | ((repeat apply Exists.intro); exact ⟨⟨y / 128, _, rfl, NY, Lib.hid (by have := HY.out; omega)⟩, rfl⟩)
      case measure => simp [intOf]; have := HL.out; omega
def textG (st : Option (List Int)) (ys : List Int) : Option (List Int) := if 4096 < ys.length then none else putG st (enc ys.length ++ ys)
set_option maxHeartbeats 1000000 in
theorem otext_gen (w : World) (b : Nat) (st : Option (List Int)) (ys : List Int) (a1 : Option Addr) (n1 c1 : Nat) (h : OutG w b st) (hr : ∀ X, Below b w X → Row X a1 n1 ys) (hn : n1 ≤ 4611686018427387904) :
    Calls Try.prog 23 #[.pointer (some ⟨b, 0, none⟩), .slice a1 n1 c1] w fun e w' => e = .returned (.tuple #[]) ∧ OutG w' b (textG st ys) ∧ Below b w w' := by
  obtain ⟨a, n, c, lb, p, hb, hn0⟩ := h.any
  have HY : Hid (ys.length = n1) := Lib.hid (hr w (Below.refl _ _)).1
  have HB := Lib.hid hb
  have HO := Lib.hid h
  have HR := Lib.hid hr
  have HN := Lib.hid (And.intro hn0 hn)
  clear hb h hr hn hn0
  by_cases hgt : 4096 < n1
  · have GT := Lib.hid hgt
    clear hgt
    go_enter Try.func23, Try.ntmps23
    go_upto_region 0 with (fail)
    refine wp_region_lit ?_
    refine wpL_pure (.slice a1 n1 c1) rfl (by kernel_rfl) ?_
    simp only [Act.put, List.setIfInBounds_toArray, List.set_cons_zero, List.set_cons_succ]
    refine wpL_pure (.int .i64 (n1 : Int)) rfl (by kernel_rfl) ?_
    simp only [Act.put, List.setIfInBounds_toArray, List.set_cons_zero, List.set_cons_succ]
    refine wpL_pure (.bool true) rfl (run_gti Try.underlying3 rfl rfl rfl (by have := GT.out; rw [decide_eq_true_eq]; omega)) ?_
    simp only [Act.put, List.setIfInBounds_toArray, List.set_cons_zero, List.set_cons_succ]
    go_upto_region 1 with (fail)
    refine wp_region_lit ?_
    refine wpL_pure (.pointer (some ⟨b, 0, none⟩)) rfl (by kernel_rfl) ?_
    simp only [Act.put, List.setIfInBounds_toArray, List.set_cons_zero, List.set_cons_succ]
    refine wpL_pure (.pointer (some ⟨b, 0, none⟩)) rfl (by kernel_rfl) ?_
    simp only [Act.put, List.setIfInBounds_toArray, List.set_cons_zero, List.set_cons_succ]
    refine wpL_pure (.pointer (some ⟨b, 0, none⟩)) rfl (by kernel_rfl) ?_
    simp only [Act.put, List.setIfInBounds_toArray, List.set_cons_zero, List.set_cons_succ]
    refine wpL_pure (.pointer (some ⟨b, 1, none⟩)) rfl (by kernel_rfl) ?_
    simp only [Act.put, List.setIfInBounds_toArray, List.set_cons_zero, List.set_cons_succ]
    refine wpL_store_one rfl rfl (b) (1) rfl (.bool true) rfl rfl size4 (by rw [HB.out.cell]; rfl) (HB.out.free _) ?_
    simp only [Act.put, List.setIfInBounds_toArray, List.set_cons_zero, List.set_cons_succ]
    obtain ⟨w1, hw1⟩ : ∃ V, V = w.setCell ⟨b, 1, none⟩ (.bool true) := ⟨_, rfl⟩
    rw [← hw1]
    have O1 : Hid (OutG w1 b none ∧ Below b w w1) := Lib.hid (by rw [hw1]; exact ⟨⟨a, n, c, p, Blk.set (l := [.slice a n c, .bool lb, .pointer p]) HB.out 1 _, HN.out.1⟩, Below.setCell (p := ⟨b, 1, none⟩) (Below.refl b w) (Nat.le_refl b) _⟩)
    clear hw1 HB
    go_upto_region 2 with (fail)
    refine wp_region_lit ?_
    refine wpL_pure (.pointer (some ⟨b, 0, none⟩)) rfl (by kernel_rfl) ?_
    simp only [Act.put, List.setIfInBounds_toArray, List.set_cons_zero, List.set_cons_succ]
    refine wpL_pure (.slice a1 n1 c1) rfl (by kernel_rfl) ?_
    simp only [Act.put, List.setIfInBounds_toArray, List.set_cons_zero, List.set_cons_succ]
    refine wpL_pure (.int .i64 (n1 : Int)) rfl (by kernel_rfl) ?_
    simp only [Act.put, List.setIfInBounds_toArray, List.set_cons_zero, List.set_cons_succ]
    refine wpL_pure (.int .u64 (n1 : Int)) rfl (run_convi Try.underlying3 Try.underlying33 rfl rfl _ (u64_in _ (by omega) (by have := HN.out.2; omega))) ?_
    simp only [Act.put, List.setIfInBounds_toArray, List.set_cons_zero, List.set_cons_succ]
    refine wpL_call 20 #[.pointer (some ⟨b, 0, none⟩), .int .u64 (n1 : Int)] rfl (by kernel_rfl) (((onum_gen w1 b n1 none O1.out.1 (by have := HN.out.2; omega))).mono fun e w2 ⟨he, q1, q2⟩ => ⟨.tuple #[], he, ?_⟩)
    simp only [Act.put, List.setIfInBounds_toArray, List.set_cons_zero, List.set_cons_succ]
    have O2 := Lib.hid (And.intro q1 (O1.out.2.trans q2))
    clear q1 q2 O1
    go_upto_region 3 with (fail)
    refine wp_region_lit ?_
    refine wpL_pure (.pointer (some ⟨b, 0, none⟩)) rfl (by kernel_rfl) ?_
    simp only [Act.put, List.setIfInBounds_toArray, List.set_cons_zero, List.set_cons_succ]
    refine wpL_pure (.pointer (some ⟨b, 0, none⟩)) rfl (by kernel_rfl) ?_
    simp only [Act.put, List.setIfInBounds_toArray, List.set_cons_zero, List.set_cons_succ]
    refine wpL_pure (.pointer (some ⟨b, 0, none⟩)) rfl (by kernel_rfl) ?_
    simp only [Act.put, List.setIfInBounds_toArray, List.set_cons_zero, List.set_cons_succ]
    refine wpL_pure (.slice a1 n1 c1) rfl (by kernel_rfl) ?_
    simp only [Act.put, List.setIfInBounds_toArray, List.set_cons_zero, List.set_cons_succ]
    refine wpL_call 31 #[.pointer (some ⟨b, 0, none⟩), .slice a1 n1 c1] rfl (by kernel_rfl) (((put_gen w2 b (putG none (enc n1)) ys a1 n1 c1 O2.out.1 (fun X hX => HR.out X (O2.out.2.trans (gb_below hX (Nat.le_refl _) (Nat.le_of_lt O2.out.1.lt)))) (by have := HN.out.2; omega))).mono fun e w3 ⟨he, q1, q2⟩ => ⟨.tuple #[], he, ?_⟩)
    simp only [Act.put, List.setIfInBounds_toArray, List.set_cons_zero, List.set_cons_succ]
    have O3 := Lib.hid (And.intro q1 (O2.out.2.trans q2))
    clear q1 q2 O2
    go_wp2_with fail
    go_end0
    refine ⟨rfl, ?_, O3.out.2⟩
    have := O3.out.1
    have LY := HY.out
    unfold textG
    rw [if_pos (by have := GT.out; omega)]
    exact this
  · have GT := Lib.hid hgt
    clear hgt
    go_enter Try.func23, Try.ntmps23
    go_upto_region 0 with (fail)
    refine wp_region_lit ?_
    refine wpL_pure (.slice a1 n1 c1) rfl (by kernel_rfl) ?_
    simp only [Act.put, List.setIfInBounds_toArray, List.set_cons_zero, List.set_cons_succ]
    refine wpL_pure (.int .i64 (n1 : Int)) rfl (by kernel_rfl) ?_
    simp only [Act.put, List.setIfInBounds_toArray, List.set_cons_zero, List.set_cons_succ]
    refine wpL_pure (.bool false) rfl (run_gti Try.underlying3 rfl rfl rfl (by have := GT.out; rw [decide_eq_false_iff_not]; omega)) ?_
    simp only [Act.put, List.setIfInBounds_toArray, List.set_cons_zero, List.set_cons_succ]
    have O1 : Hid (OutG w b st ∧ Below b w w) := Lib.hid ⟨HO.out, Below.refl _ _⟩
    go_upto_region 2 with (fail)
    refine wp_region_lit ?_
    refine wpL_pure (.pointer (some ⟨b, 0, none⟩)) rfl (by kernel_rfl) ?_
    simp only [Act.put, List.setIfInBounds_toArray, List.set_cons_zero, List.set_cons_succ]
    refine wpL_pure (.slice a1 n1 c1) rfl (by kernel_rfl) ?_
    simp only [Act.put, List.setIfInBounds_toArray, List.set_cons_zero, List.set_cons_succ]
    refine wpL_pure (.int .i64 (n1 : Int)) rfl (by kernel_rfl) ?_
    simp only [Act.put, List.setIfInBounds_toArray, List.set_cons_zero, List.set_cons_succ]
    refine wpL_pure (.int .u64 (n1 : Int)) rfl (run_convi Try.underlying3 Try.underlying33 rfl rfl _ (u64_in _ (by omega) (by have := HN.out.2; omega))) ?_
    simp only [Act.put, List.setIfInBounds_toArray, List.set_cons_zero, List.set_cons_succ]
    refine wpL_call 20 #[.pointer (some ⟨b, 0, none⟩), .int .u64 (n1 : Int)] rfl (by kernel_rfl) (((onum_gen w b n1 st O1.out.1 (by have := HN.out.2; omega))).mono fun e w2 ⟨he, q1, q2⟩ => ⟨.tuple #[], he, ?_⟩)
    simp only [Act.put, List.setIfInBounds_toArray, List.set_cons_zero, List.set_cons_succ]
    have O2 := Lib.hid (And.intro q1 (O1.out.2.trans q2))
    clear q1 q2 O1
    go_upto_region 3 with (fail)
    refine wp_region_lit ?_
    refine wpL_pure (.pointer (some ⟨b, 0, none⟩)) rfl (by kernel_rfl) ?_
    simp only [Act.put, List.setIfInBounds_toArray, List.set_cons_zero, List.set_cons_succ]
    refine wpL_pure (.pointer (some ⟨b, 0, none⟩)) rfl (by kernel_rfl) ?_
    simp only [Act.put, List.setIfInBounds_toArray, List.set_cons_zero, List.set_cons_succ]
    refine wpL_pure (.pointer (some ⟨b, 0, none⟩)) rfl (by kernel_rfl) ?_
    simp only [Act.put, List.setIfInBounds_toArray, List.set_cons_zero, List.set_cons_succ]
    refine wpL_pure (.slice a1 n1 c1) rfl (by kernel_rfl) ?_
    simp only [Act.put, List.setIfInBounds_toArray, List.set_cons_zero, List.set_cons_succ]
    refine wpL_call 31 #[.pointer (some ⟨b, 0, none⟩), .slice a1 n1 c1] rfl (by kernel_rfl) (((put_gen w2 b (putG st (enc n1)) ys a1 n1 c1 O2.out.1 (fun X hX => HR.out X (O2.out.2.trans (gb_below hX (Nat.le_refl _) (Nat.le_of_lt O2.out.1.lt)))) (by have := HN.out.2; omega))).mono fun e w3 ⟨he, q1, q2⟩ => ⟨.tuple #[], he, ?_⟩)
    simp only [Act.put, List.setIfInBounds_toArray, List.set_cons_zero, List.set_cons_succ]
    have O3 := Lib.hid (And.intro q1 (O2.out.2.trans q2))
    clear q1 q2 O2
    go_wp2_with fail
    go_end0
    refine ⟨rfl, ?_, O3.out.2⟩
    have := O3.out.1
    have LY := HY.out
    unfold textG
    rw [if_neg (by have := GT.out; omega), LY]
    rw [putG_putG] at this
    exact this
set_option maxHeartbeats 1000000 in
theorem oflag_gen (w : World) (b : Nat) (st : Option (List Int)) (fl : Bool) (h : OutG w b st) :
    Calls Try.prog 24 #[.pointer (some ⟨b, 0, none⟩), .bool fl] w fun e w' => e = .returned (.tuple #[]) ∧ OutG w' b (putG st [if fl = true then 1 else 0]) ∧ Below b w w' := by
  have HO := Lib.hid h
  clear h
  go_enter Try.func24, Try.ntmps24
  cases fl
  · go_upto_region 0 with (fail)
    refine wp_region_lit ?_
    refine wpL_pure (.bool false) rfl (by kernel_rfl) ?_
    simp only [Act.put, List.setIfInBounds_toArray, List.set_cons_zero, List.set_cons_succ]
    go_upto_region 2 with (fail)
    refine wp_region_lit ?_
    obtain ⟨w1, hw1⟩ : ∃ V, V = w.alloc (.cells #[.int .u8 0] 5) := ⟨_, rfl⟩
    have PU := Lib.hid (put_gen w1 b st [0] (some ⟨w.heap.size, 0, none⟩) 1 1 (by rw [hw1]; exact HO.out.below ((Below.refl _ _).alloc (Nat.le_refl _) _)) (fun X hX => Row.grown (by rw [hw1]; exact row_one w _ (by omega) (by omega)) hX (fun p hp => by cases hp; intro e; have := HO.out.lt; simp at e; omega)) (by omega))
    have BW : Hid (Below b w w1) := Lib.hid (by rw [hw1]; exact (Below.refl _ _).alloc (Nat.le_of_lt HO.out.lt) _)
    refine wpL_pure (.pointer (some ⟨b, 0, none⟩)) rfl (by kernel_rfl) ?_
    simp only [Act.put, List.setIfInBounds_toArray, List.set_cons_zero, List.set_cons_succ]
    refine wpL_pure (.pointer (some ⟨b, 0, none⟩)) rfl (by kernel_rfl) ?_
    simp only [Act.put, List.setIfInBounds_toArray, List.set_cons_zero, List.set_cons_succ]
    refine wpL_pure (.pointer (some ⟨b, 0, none⟩)) rfl (by kernel_rfl) ?_
    simp only [Act.put, List.setIfInBounds_toArray, List.set_cons_zero, List.set_cons_succ]
    refine wpL_value (.slice (some ⟨w.heap.size, 0, none⟩) 1 1) (w1) rfl (by rw [hw1]; kernel_rfl) ?_
    simp only [Act.put, List.setIfInBounds_toArray, List.set_cons_zero, List.set_cons_succ]
    refine wpL_call 31 #[.pointer (some ⟨b, 0, none⟩), .slice (some ⟨w.heap.size, 0, none⟩) 1 1] rfl (by kernel_rfl) ((PU.out).mono fun e w2 ⟨he, hO, hB⟩ => ⟨.tuple #[], he, ?_⟩)
    simp only [Act.put, List.setIfInBounds_toArray, List.set_cons_zero, List.set_cons_succ]
    have NX := Lib.hid (And.intro hO (BW.out.trans hB))
    clear hO hB PU hw1
    go_wp2_with fail
    go_end0
    exact ⟨rfl, NX.out⟩
  · go_upto_region 0 with (fail)
    refine wp_region_lit ?_
    refine wpL_pure (.bool true) rfl (by kernel_rfl) ?_
    simp only [Act.put, List.setIfInBounds_toArray, List.set_cons_zero, List.set_cons_succ]
    go_upto_region 1 with (fail)
    refine wp_region_lit ?_
    obtain ⟨w1, hw1⟩ : ∃ V, V = w.alloc (.cells #[.int .u8 1] 5) := ⟨_, rfl⟩
    have PU := Lib.hid (put_gen w1 b st [1] (some ⟨w.heap.size, 0, none⟩) 1 1 (by rw [hw1]; exact HO.out.below ((Below.refl _ _).alloc (Nat.le_refl _) _)) (fun X hX => Row.grown (by rw [hw1]; exact row_one w _ (by omega) (by omega)) hX (fun p hp => by cases hp; intro e; have := HO.out.lt; simp at e; omega)) (by omega))
    have BW : Hid (Below b w w1) := Lib.hid (by rw [hw1]; exact (Below.refl _ _).alloc (Nat.le_of_lt HO.out.lt) _)
    refine wpL_pure (.pointer (some ⟨b, 0, none⟩)) rfl (by kernel_rfl) ?_
    simp only [Act.put, List.setIfInBounds_toArray, List.set_cons_zero, List.set_cons_succ]
    refine wpL_pure (.pointer (some ⟨b, 0, none⟩)) rfl (by kernel_rfl) ?_
    simp only [Act.put, List.setIfInBounds_toArray, List.set_cons_zero, List.set_cons_succ]
    refine wpL_pure (.pointer (some ⟨b, 0, none⟩)) rfl (by kernel_rfl) ?_
    simp only [Act.put, List.setIfInBounds_toArray, List.set_cons_zero, List.set_cons_succ]
    refine wpL_value (.slice (some ⟨w.heap.size, 0, none⟩) 1 1) (w1) rfl (by rw [hw1]; kernel_rfl) ?_
    simp only [Act.put, List.setIfInBounds_toArray, List.set_cons_zero, List.set_cons_succ]
    refine wpL_call 31 #[.pointer (some ⟨b, 0, none⟩), .slice (some ⟨w.heap.size, 0, none⟩) 1 1] rfl (by kernel_rfl) ((PU.out).mono fun e w2 ⟨he, hO, hB⟩ => ⟨.tuple #[], he, ?_⟩)
    simp only [Act.put, List.setIfInBounds_toArray, List.set_cons_zero, List.set_cons_succ]
    have NX := Lib.hid (And.intro hO (BW.out.trans hB))
    clear hO hB PU hw1
    go_wp2_with fail
    refine bodyPost_ret (results_none rfl _ _ _) rfl ?_
    exact ⟨rfl, NX.out⟩
theorem end_long (w : World) (b : Nat) (h : OutLong w b) : Calls Try.prog 12 #[.pointer (some ⟨b, 0, none⟩)] w fun e w' => e = .returned (.tuple #[.slice none 0 0, .int .i64 3]) ∧ w = w' := by
  obtain ⟨a, n, c, p, hb, _⟩ := h
  have HB := Lib.hid hb
  clear hb
  go_enter Try.func12, Try.ntmps12
  go_upto_region 1 with (fail)
  refine wp_region_lit ?_
  refine wpL_pure (.pointer (some ⟨b, 0, none⟩)) rfl (by kernel_rfl) ?_
  simp only [Act.put, List.setIfInBounds_toArray, List.set_cons_zero, List.set_cons_succ]
  refine wpL_pure (.pointer (some ⟨b, 0, none⟩)) rfl (by kernel_rfl) ?_
  simp only [Act.put, List.setIfInBounds_toArray, List.set_cons_zero, List.set_cons_succ]
  refine wpL_pure (.pointer (some ⟨b, 0, none⟩)) rfl (by kernel_rfl) ?_
  simp only [Act.put, List.setIfInBounds_toArray, List.set_cons_zero, List.set_cons_succ]
  refine wpL_pure (.pointer (some ⟨b, 1, none⟩)) rfl (by kernel_rfl) ?_
  simp only [Act.put, List.setIfInBounds_toArray, List.set_cons_zero, List.set_cons_succ]
  refine wpL_pure (.bool true) rfl (run_load_one _ _ _ 4 _ _ rfl (b) (1) rfl (by rw [HB.out.cell]; rfl) (by kernel_rfl)) ?_
  simp only [Act.put, List.setIfInBounds_toArray, List.set_cons_zero, List.set_cons_succ]
  go_upto_region 2 with (fail)
  refine wp_region_lit ?_
  refine wpL_pure (.slice none 0 0) rfl (by kernel_rfl) ?_
  simp only [Act.put, List.setIfInBounds_toArray, List.set_cons_zero, List.set_cons_succ]
  refine wpL_pure (.int .i64 3) rfl (by kernel_rfl) ?_
  simp only [Act.put, List.setIfInBounds_toArray, List.set_cons_zero, List.set_cons_succ]
  go_wp2_with fail
  go_ret2
  exact ⟨rfl, rfl⟩
/-- what a part leaves. -/
def partG (st : Option (List Int)) (q X : Nat) (bs : List Int) : Option (List Int) := if q % 4 = 0 then putG st (enc X) else if q % 4 = 1 then textG st bs else if q % 4 = 2 then putG st bs else putG st [((X % 2 : Nat) : Int)]
theorem run_rem2 (a : Act) (o : Oper) (w : World) (x : Operand) (y : Nat) (ho : o.op = .binOp .rem 33 x (.const (.int .u64 2)) 33) (hx : a.eval x = .int .u64 (y : Int)) (hy : y < 18446744073709551616) : (execOp a.eval o).run Try.prog w = .ok (.value (.int .u64 ((y % 2 : Nat) : Int))) w := by
  have hc : a.eval (.const (.int .u64 2)) = .int .u64 2 := rfl
  have u := run_underlying Try.underlying33 w
  unfold execOp
  simp only [ho, hx, hc]
  go_simp
  simp [Int.tmod_eq_emod_of_nonneg, IntKind.wrap, IntKind.bits, IntKind.signed]
  try omega
set_option maxHeartbeats 1000000 in
theorem lawput_gen (w : World) (b : Nat) (st : Option (List Int)) (q X : Nat) (a : Option Addr) (n c : Nat) (bs : List Int) (h : OutG w b st) (hr : ∀ X, Below b w X → Row X a n bs) (hn : n ≤ 4611686018427387904) (hq : q < 256) (hX : X < 18446744073709551616) :
    Calls Try.prog 10 #[.pointer (some ⟨b, 0, none⟩), .agg #[.int .u8 (q : Int), .int .u64 (X : Int), .slice a n c]] w fun e w' => e = .returned (.tuple #[]) ∧ OutG w' b (partG st q X bs) ∧ Below b w w' := by
  have QL := Lib.hid hq
  have XL := Lib.hid hX
  have HN := Lib.hid hn
  obtain ⟨W0, hW0⟩ : ∃ V, V = w.alloc (.cells #[.int .u8 (q : Int), .int .u64 (X : Int), .slice a n c] 35) := ⟨_, rfl⟩
  have HO : Hid (OutG W0 b st) := Lib.hid (by rw [hW0]; exact h.below ((Below.refl _ _).alloc (Nat.le_refl _) _))
  have HB : Hid (Blk W0 w.heap.size 35 #[.int .u8 (q : Int), .int .u64 (X : Int), .slice a n c]) := Lib.hid (by rw [hW0]; exact Blk.new _ _ _)
  have GB : Hid (Below b w W0) := Lib.hid (by rw [hW0]; exact (Below.refl _ _).alloc (Nat.le_of_lt h.lt) _)
  have HR : Hid (∀ X, Below b W0 X → Row X a n bs) := Lib.hid (fun X hX => hr X (GB.out.trans hX))
  obtain ⟨g1, hg1⟩ : ∃ q, w.heap.size = q := ⟨_, rfl⟩
  rw [hg1] at HB
  clear h hX hq hn hr
  have hq : q % 4 = 0 ∨ q % 4 = 1 ∨ q % 4 = 2 ∨ q % 4 = 3 := by omega
  rcases hq with hq | hq | hq | hq
  · have HQ : Hid (q % 4 = 0) := Lib.hid hq
    clear hq
    go_enter Try.func10, Try.ntmps10
    go_upto_region 1 with (fail)
    try rw [← hW0]
    try rw [hg1]
    clear hW0 hg1
    refine wp_region_lit ?_
    refine wpL_pure (.pointer (some ⟨g1, 0, none⟩)) rfl (by kernel_rfl) ?_
    simp only [Act.put, List.setIfInBounds_toArray, List.set_cons_zero, List.set_cons_succ]
    refine wpL_pure (.int .u8 (q : Int)) rfl (run_load_one _ _ _ 5 _ _ rfl (g1) (0) rfl (by rw [HB.out.cell]; rfl) (by kernel_rfl)) ?_
    simp only [Act.put, List.setIfInBounds_toArray, List.set_cons_zero, List.set_cons_succ]
    refine wpL_pure (.int .u8 ((q % 4 : Nat) : Int)) rfl (run_rem4 _ _ _ _ _ q rfl rfl rfl QL.out) ?_
    simp only [Act.put, List.setIfInBounds_toArray, List.set_cons_zero, List.set_cons_succ]
    go_upto_region 3 with (fail)
    refine wp_region_lit ?_
    refine wpL_pure (.bool true) rfl (run_eqi Try.underlying5 rfl rfl rfl (by have := HQ.out; rw [decide_eq_true_eq]; omega)) ?_
    simp only [Act.put, List.setIfInBounds_toArray, List.set_cons_zero, List.set_cons_succ]
    refine wpL_pure (.bool true) rfl (by kernel_rfl) ?_
    simp only [Act.put, List.setIfInBounds_toArray, List.set_cons_zero, List.set_cons_succ]
    go_upto_region 4 with (fail)
    refine wp_region_lit ?_
    refine wpL_pure (.pointer (some ⟨b, 0, none⟩)) rfl (by kernel_rfl) ?_
    simp only [Act.put, List.setIfInBounds_toArray, List.set_cons_zero, List.set_cons_succ]
    refine wpL_pure (.pointer (some ⟨g1, 1, none⟩)) rfl (by kernel_rfl) ?_
    simp only [Act.put, List.setIfInBounds_toArray, List.set_cons_zero, List.set_cons_succ]
    refine wpL_pure (.int .u64 (X : Int)) rfl (run_load_one _ _ _ 33 _ _ rfl (g1) (1) rfl (by rw [HB.out.cell]; rfl) (by kernel_rfl)) ?_
    simp only [Act.put, List.setIfInBounds_toArray, List.set_cons_zero, List.set_cons_succ]
    refine wpL_call 20 #[.pointer (some ⟨b, 0, none⟩), .int .u64 (X : Int)] rfl (by kernel_rfl) (((onum_gen W0 b X st HO.out XL.out)).mono fun e w1 ⟨he, q1, q2⟩ => ⟨.tuple #[], he, ?_⟩)
    simp only [Act.put, List.setIfInBounds_toArray, List.set_cons_zero, List.set_cons_succ]
    have Q := Lib.hid (And.intro q1 q2)
    clear q1 q2
    go_wp2_with fail
    go_end0
    refine ⟨rfl, ?_, GB.out.trans Q.out.2⟩
    unfold partG
    rw [if_pos HQ.out]
    exact Q.out.1
  · have HQ : Hid (q % 4 = 1) := Lib.hid hq
    clear hq
    go_enter Try.func10, Try.ntmps10
    go_upto_region 1 with (fail)
    try rw [← hW0]
    try rw [hg1]
    clear hW0 hg1
    refine wp_region_lit ?_
    refine wpL_pure (.pointer (some ⟨g1, 0, none⟩)) rfl (by kernel_rfl) ?_
    simp only [Act.put, List.setIfInBounds_toArray, List.set_cons_zero, List.set_cons_succ]
    refine wpL_pure (.int .u8 (q : Int)) rfl (run_load_one _ _ _ 5 _ _ rfl (g1) (0) rfl (by rw [HB.out.cell]; rfl) (by kernel_rfl)) ?_
    simp only [Act.put, List.setIfInBounds_toArray, List.set_cons_zero, List.set_cons_succ]
    refine wpL_pure (.int .u8 ((q % 4 : Nat) : Int)) rfl (run_rem4 _ _ _ _ _ q rfl rfl rfl QL.out) ?_
    simp only [Act.put, List.setIfInBounds_toArray, List.set_cons_zero, List.set_cons_succ]
    go_upto_region 3 with (fail)
    refine wp_region_lit ?_
    refine wpL_pure (.bool false) rfl (run_eqi Try.underlying5 rfl rfl rfl (by have := HQ.out; rw [decide_eq_false_iff_not]; omega)) ?_
    simp only [Act.put, List.setIfInBounds_toArray, List.set_cons_zero, List.set_cons_succ]
    refine wpL_pure (.bool false) rfl (by kernel_rfl) ?_
    simp only [Act.put, List.setIfInBounds_toArray, List.set_cons_zero, List.set_cons_succ]
    go_upto_region 5 with (fail)
    refine wp_region_lit ?_
    refine wpL_pure (.bool true) rfl (run_eqi Try.underlying5 rfl rfl rfl (by have := HQ.out; rw [decide_eq_true_eq]; omega)) ?_
    simp only [Act.put, List.setIfInBounds_toArray, List.set_cons_zero, List.set_cons_succ]
    refine wpL_pure (.bool true) rfl (by kernel_rfl) ?_
    simp only [Act.put, List.setIfInBounds_toArray, List.set_cons_zero, List.set_cons_succ]
    go_upto_region 6 with (fail)
    refine wp_region_lit ?_
    refine wpL_pure (.pointer (some ⟨b, 0, none⟩)) rfl (by kernel_rfl) ?_
    simp only [Act.put, List.setIfInBounds_toArray, List.set_cons_zero, List.set_cons_succ]
    refine wpL_pure (.pointer (some ⟨g1, 2, none⟩)) rfl (by kernel_rfl) ?_
    simp only [Act.put, List.setIfInBounds_toArray, List.set_cons_zero, List.set_cons_succ]
    refine wpL_pure (.slice a n c) rfl (run_load_one _ _ _ 25 _ _ rfl (g1) (2) rfl (by rw [HB.out.cell]; rfl) (by kernel_rfl)) ?_
    simp only [Act.put, List.setIfInBounds_toArray, List.set_cons_zero, List.set_cons_succ]
    refine wpL_call 23 #[.pointer (some ⟨b, 0, none⟩), .slice a n c] rfl (by kernel_rfl) (((otext_gen W0 b st bs a n c HO.out HR.out HN.out)).mono fun e w1 ⟨he, q1, q2⟩ => ⟨.tuple #[], he, ?_⟩)
    simp only [Act.put, List.setIfInBounds_toArray, List.set_cons_zero, List.set_cons_succ]
    have Q := Lib.hid (And.intro q1 q2)
    clear q1 q2
    go_wp2_with fail
    go_end0
    refine ⟨rfl, ?_, GB.out.trans Q.out.2⟩
    unfold partG
    rw [if_neg (by have := HQ.out; omega), if_pos HQ.out]
    exact Q.out.1
  · have HQ : Hid (q % 4 = 2) := Lib.hid hq
    clear hq
    go_enter Try.func10, Try.ntmps10
    go_upto_region 1 with (fail)
    try rw [← hW0]
    try rw [hg1]
    clear hW0 hg1
    refine wp_region_lit ?_
    refine wpL_pure (.pointer (some ⟨g1, 0, none⟩)) rfl (by kernel_rfl) ?_
    simp only [Act.put, List.setIfInBounds_toArray, List.set_cons_zero, List.set_cons_succ]
    refine wpL_pure (.int .u8 (q : Int)) rfl (run_load_one _ _ _ 5 _ _ rfl (g1) (0) rfl (by rw [HB.out.cell]; rfl) (by kernel_rfl)) ?_
    simp only [Act.put, List.setIfInBounds_toArray, List.set_cons_zero, List.set_cons_succ]
    refine wpL_pure (.int .u8 ((q % 4 : Nat) : Int)) rfl (run_rem4 _ _ _ _ _ q rfl rfl rfl QL.out) ?_
    simp only [Act.put, List.setIfInBounds_toArray, List.set_cons_zero, List.set_cons_succ]
    go_upto_region 3 with (fail)
    refine wp_region_lit ?_
    refine wpL_pure (.bool false) rfl (run_eqi Try.underlying5 rfl rfl rfl (by have := HQ.out; rw [decide_eq_false_iff_not]; omega)) ?_
    simp only [Act.put, List.setIfInBounds_toArray, List.set_cons_zero, List.set_cons_succ]
    refine wpL_pure (.bool false) rfl (by kernel_rfl) ?_
    simp only [Act.put, List.setIfInBounds_toArray, List.set_cons_zero, List.set_cons_succ]
    go_upto_region 5 with (fail)
    refine wp_region_lit ?_
    refine wpL_pure (.bool false) rfl (run_eqi Try.underlying5 rfl rfl rfl (by have := HQ.out; rw [decide_eq_false_iff_not]; omega)) ?_
    simp only [Act.put, List.setIfInBounds_toArray, List.set_cons_zero, List.set_cons_succ]
    refine wpL_pure (.bool false) rfl (by kernel_rfl) ?_
    simp only [Act.put, List.setIfInBounds_toArray, List.set_cons_zero, List.set_cons_succ]
    go_upto_region 7 with (fail)
    refine wp_region_lit ?_
    refine wpL_pure (.bool true) rfl (run_eqi Try.underlying5 rfl rfl rfl (by have := HQ.out; rw [decide_eq_true_eq]; omega)) ?_
    simp only [Act.put, List.setIfInBounds_toArray, List.set_cons_zero, List.set_cons_succ]
    refine wpL_pure (.bool true) rfl (by kernel_rfl) ?_
    simp only [Act.put, List.setIfInBounds_toArray, List.set_cons_zero, List.set_cons_succ]
    go_upto_region 8 with (fail)
    refine wp_region_lit ?_
    refine wpL_pure (.pointer (some ⟨b, 0, none⟩)) rfl (by kernel_rfl) ?_
    simp only [Act.put, List.setIfInBounds_toArray, List.set_cons_zero, List.set_cons_succ]
    refine wpL_pure (.pointer (some ⟨g1, 2, none⟩)) rfl (by kernel_rfl) ?_
    simp only [Act.put, List.setIfInBounds_toArray, List.set_cons_zero, List.set_cons_succ]
    refine wpL_pure (.slice a n c) rfl (run_load_one _ _ _ 25 _ _ rfl (g1) (2) rfl (by rw [HB.out.cell]; rfl) (by kernel_rfl)) ?_
    simp only [Act.put, List.setIfInBounds_toArray, List.set_cons_zero, List.set_cons_succ]
    refine wpL_call 22 #[.pointer (some ⟨b, 0, none⟩), .slice a n c] rfl (by kernel_rfl) (((oraw_gen W0 b st bs a n c HO.out (fun X hX => HR.out X (gb_below hX (Nat.le_refl _) (Nat.le_of_lt HO.out.lt))) HN.out)).mono fun e w1 ⟨he, q1, q2⟩ => ⟨.tuple #[], he, ?_⟩)
    simp only [Act.put, List.setIfInBounds_toArray, List.set_cons_zero, List.set_cons_succ]
    have Q := Lib.hid (And.intro q1 q2)
    clear q1 q2
    go_wp2_with fail
    go_end0
    refine ⟨rfl, ?_, GB.out.trans Q.out.2⟩
    unfold partG
    rw [if_neg (by have := HQ.out; omega), if_neg (by have := HQ.out; omega), if_pos HQ.out]
    exact Q.out.1
  · have HQ : Hid (q % 4 = 3) := Lib.hid hq
    clear hq
    go_enter Try.func10, Try.ntmps10
    go_upto_region 1 with (fail)
    try rw [← hW0]
    try rw [hg1]
    clear hW0 hg1
    refine wp_region_lit ?_
    refine wpL_pure (.pointer (some ⟨g1, 0, none⟩)) rfl (by kernel_rfl) ?_
    simp only [Act.put, List.setIfInBounds_toArray, List.set_cons_zero, List.set_cons_succ]
    refine wpL_pure (.int .u8 (q : Int)) rfl (run_load_one _ _ _ 5 _ _ rfl (g1) (0) rfl (by rw [HB.out.cell]; rfl) (by kernel_rfl)) ?_
    simp only [Act.put, List.setIfInBounds_toArray, List.set_cons_zero, List.set_cons_succ]
    refine wpL_pure (.int .u8 ((q % 4 : Nat) : Int)) rfl (run_rem4 _ _ _ _ _ q rfl rfl rfl QL.out) ?_
    simp only [Act.put, List.setIfInBounds_toArray, List.set_cons_zero, List.set_cons_succ]
    go_upto_region 3 with (fail)
    refine wp_region_lit ?_
    refine wpL_pure (.bool false) rfl (run_eqi Try.underlying5 rfl rfl rfl (by have := HQ.out; rw [decide_eq_false_iff_not]; omega)) ?_
    simp only [Act.put, List.setIfInBounds_toArray, List.set_cons_zero, List.set_cons_succ]
    refine wpL_pure (.bool false) rfl (by kernel_rfl) ?_
    simp only [Act.put, List.setIfInBounds_toArray, List.set_cons_zero, List.set_cons_succ]
    go_upto_region 5 with (fail)
    refine wp_region_lit ?_
    refine wpL_pure (.bool false) rfl (run_eqi Try.underlying5 rfl rfl rfl (by have := HQ.out; rw [decide_eq_false_iff_not]; omega)) ?_
    simp only [Act.put, List.setIfInBounds_toArray, List.set_cons_zero, List.set_cons_succ]
    refine wpL_pure (.bool false) rfl (by kernel_rfl) ?_
    simp only [Act.put, List.setIfInBounds_toArray, List.set_cons_zero, List.set_cons_succ]
    go_upto_region 7 with (fail)
    refine wp_region_lit ?_
    refine wpL_pure (.bool false) rfl (run_eqi Try.underlying5 rfl rfl rfl (by have := HQ.out; rw [decide_eq_false_iff_not]; omega)) ?_
    simp only [Act.put, List.setIfInBounds_toArray, List.set_cons_zero, List.set_cons_succ]
    refine wpL_pure (.bool false) rfl (by kernel_rfl) ?_
    simp only [Act.put, List.setIfInBounds_toArray, List.set_cons_zero, List.set_cons_succ]
    obtain ⟨fl, hfl⟩ : ∃ z, decide (X % 2 = 1) = z := ⟨_, rfl⟩
    have FL := Lib.hid hfl
    clear hfl
    go_upto_region 2 with (fail)
    refine wp_region_lit ?_
    refine wpL_pure (.pointer (some ⟨b, 0, none⟩)) rfl (by kernel_rfl) ?_
    simp only [Act.put, List.setIfInBounds_toArray, List.set_cons_zero, List.set_cons_succ]
    refine wpL_pure (.pointer (some ⟨g1, 1, none⟩)) rfl (by kernel_rfl) ?_
    simp only [Act.put, List.setIfInBounds_toArray, List.set_cons_zero, List.set_cons_succ]
    refine wpL_pure (.int .u64 (X : Int)) rfl (run_load_one _ _ _ 33 _ _ rfl (g1) (1) rfl (by rw [HB.out.cell]; rfl) (by kernel_rfl)) ?_
    simp only [Act.put, List.setIfInBounds_toArray, List.set_cons_zero, List.set_cons_succ]
    refine wpL_pure (.int .u64 ((X % 2 : Nat) : Int)) rfl (run_rem2 _ _ _ _ X rfl rfl XL.out) ?_
    simp only [Act.put, List.setIfInBounds_toArray, List.set_cons_zero, List.set_cons_succ]
    refine wpL_pure (.bool fl) rfl (run_eqi Try.underlying33 rfl rfl rfl (by have := FL.out; rw [← this]; apply decide_eq_decide.mpr; omega)) ?_
    simp only [Act.put, List.setIfInBounds_toArray, List.set_cons_zero, List.set_cons_succ]
    refine wpL_call 24 #[.pointer (some ⟨b, 0, none⟩), .bool fl] rfl (by kernel_rfl) (((oflag_gen W0 b st fl HO.out)).mono fun e w1 ⟨he, q1, q2⟩ => ⟨.tuple #[], he, ?_⟩)
    simp only [Act.put, List.setIfInBounds_toArray, List.set_cons_zero, List.set_cons_succ]
    have Q := Lib.hid (And.intro q1 q2)
    clear q1 q2
    go_wp2_with fail
    go_end0
    refine ⟨rfl, ?_, GB.out.trans Q.out.2⟩
    unfold partG
    rw [if_neg (by have := HQ.out; omega), if_neg (by have := HQ.out; omega), if_neg (by have := HQ.out; omega)]
    have h1 := Q.out.1
    have h2 := FL.out
    cases fl
    · rw [decide_eq_false_iff_not] at h2
      rw [show X % 2 = 0 by omega]
      exact h1
    · rw [decide_eq_true_eq] at h2
      rw [h2]
      exact h1
end Go.Proofs.Yteblaknbehfkgaa
